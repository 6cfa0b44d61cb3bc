package shadow_test

import (
	"math"
	"math/rand"
	"slices"
	"testing"

	"seizin/api"
	"seizin/shadow"
)

// hold holds a map against which granules are to be painted.
func hold(t *testing.T, m *shadow.Map, want []bool) {
	t.Helper()
	many := 0
	var rows [][2]int
	for i := 0; i < len(want); i++ {
		if !want[i] {
			continue
		}
		many++
		from := i
		for i+1 < len(want) && want[i+1] {
			i++
			many++
		}
		rows = append(rows, [2]int{16 * from, 16*i + 16})
	}
	if m.Many() != many {
		t.Fatal("many", m.Many(), many)
	}
	if !slices.Equal(m.Runs(), rows) {
		t.Fatal("runs", m.Runs(), rows)
	}
	for at := -40; at < 16*len(want)+40; at++ {
		is := at >= 0 && at < 16*len(want) && want[at/16]
		if m.Is(at) != is {
			t.Fatal("is", at)
		}
		if m.Hits(api.Cap{Tag: true, Base: at, Top: at + 1}) != is {
			t.Fatal("hits", at)
		}
	}
}

func TestP81New(t *testing.T) {
	for n, want := range map[int]bool{math.MinInt: false, -1: false, 0: false, 1: true, 64: true, 65: true, 1 << 20: true, 1<<20 + 1: false, math.MaxInt: false} {
		m := shadow.New(n)
		if (m != nil) != want {
			t.Error(n)
		}
		if m == nil {
			continue
		}
		if m.Many() != 0 || len(m.Runs()) != 0 || m.Is(0) || m.Is(16*n-1) || m.Is(16*n) {
			t.Error(n)
		}
		if m.Paint(0, 16*n+16, true) || !m.Paint(0, 16*n, true) || m.Many() != n || !m.Is(16*n-1) || m.Is(16*n) {
			t.Error(n, m.Many())
		}
		if !slices.Equal(m.Runs(), [][2]int{{0, 16 * n}}) {
			t.Error(n, m.Runs())
		}
	}
}

func TestP81Is(t *testing.T) {
	m := shadow.New(3)
	m.Paint(0, 16, true)
	m.Paint(32, 48, true)
	for at, want := range map[int]bool{
		math.MinInt: false, -16: false, -15: false, -1: false, 0: true, 15: true, 16: false, 31: false, 32: true, 47: true, 48: false,
		64: false, 1024: false, math.MaxInt: false,
	} {
		if m.Is(at) != want {
			t.Error(at)
		}
	}
}

func TestP81Hits(t *testing.T) {
	m := shadow.New(8)
	m.Paint(16, 48, true)
	for i, row := range []struct {
		c    api.Cap
		want bool
	}{
		{api.Cap{Tag: true, Base: 16, Top: 17}, true},
		{api.Cap{Tag: true, Base: 47, Top: 300, At: 4, Type: 7}, true},
		{api.Cap{Tag: true, Base: 16, Top: 16}, false},
		{api.Cap{Tag: true, Base: 17, Top: 16}, false},
		{api.Cap{Base: 16, Top: 17}, false},
		{api.Cap{Tag: true, Base: 15, Top: 48, At: 16}, false},
		{api.Cap{Tag: true, Base: 48, Top: 49, At: 16}, false},
		{api.Cap{Tag: true, Base: -16, Top: 49, At: 16}, false},
		{api.Cap{Tag: true, Base: 16, Top: math.MaxInt, Perms: 200, Type: -1}, true},
		{api.Cap{Tag: true, Base: math.MinInt, Top: math.MaxInt}, false},
	} {
		if m.Hits(row.c) != row.want {
			t.Error(i)
		}
	}
}

func TestP81Paint(t *testing.T) {
	places := []int{math.MinInt, -32, -16, -1, 0, 1, 8, 15, 16, 17, 32, 48, 49, 64, 80, 96, 1 << 24, math.MaxInt - 15, math.MaxInt}
	for _, first := range []bool{false, true} {
		for _, from := range places {
			for _, to := range places {
				m, want := shadow.New(4), make([]bool, 4)
				if first {
					m.Paint(0, 64, true)
					want = []bool{true, true, true, true}
				}
				right := from%16 == 0 && to%16 == 0 && from >= 0 && from <= to && to <= 64
				if m.Paint(from, to, !first) != right {
					t.Fatal(from, to)
				}
				for i := range want {
					if right && from <= 16*i && 16*i < to {
						want[i] = !first
					}
				}
				hold(t, m, want)
			}
		}
	}
	m := shadow.New(8)
	if m.Paint(16, 48, true); m.Many() != 2 {
		t.Error("example")
	}
}

func TestP82ASet(t *testing.T) {
	r := rand.New(rand.NewSource(15))
	for _, granules := range []int{1, 63, 64, 65, 130, 200} {
		m, want := shadow.New(granules), make([]bool, granules)
		for range 150 {
			from := r.Intn(granules + 1)
			to := from + r.Intn(granules+3-from)
			is := r.Intn(2) == 0
			if m.Paint(16*from, 16*to, is) != (to <= granules) {
				t.Fatal(from, to)
			}
			for i := from; i < to && to <= granules; i++ {
				want[i] = is
			}
			hold(t, m, want)
		}
	}
}

func TestP83Rows(t *testing.T) {
	r := rand.New(rand.NewSource(16))
	for range 200 {
		m := shadow.New(150)
		for range r.Intn(20) {
			from := r.Intn(150)
			m.Paint(16*from, 16*(from+r.Intn(151-from)), r.Intn(3) > 0)
		}
		sum, behind := 0, -1
		for _, row := range m.Runs() {
			if row[0] <= behind || row[0] >= row[1] {
				t.Fatal(m.Runs())
			}
			for at := row[0]; at < row[1]; at += 16 {
				if !m.Is(at) {
					t.Fatal(m.Runs(), at)
				}
				sum++
			}
			behind = row[1]
		}
		if sum != m.Many() {
			t.Fatal(sum, m.Many())
		}
	}
}

func TestP83RowsAreNewMemory(t *testing.T) {
	m := shadow.New(9)
	m.Paint(16, 48, true)
	rows := m.Runs()
	rows[0] = [2]int{}
	_ = append(rows, [2]int{7, 7})
	if !slices.Equal(m.Runs(), [][2]int{{16, 48}}) {
		t.Error(m.Runs())
	}
}

package extent_test

import (
	"math"
	"math/rand"
	"slices"
	"testing"

	"seizin/extent"
)

const highest = 1 << 24

// model is which granules of a memory are free.
type model struct {
	from int
	free []bool
}

func newModel(from int, to int) *model {
	m := &model{from, make([]bool, (to-from)/16)}
	for i := range m.free {
		m.free[i] = true
	}
	return m
}

// runs are the rows of free granules.
func (m *model) runs() [][2]int {
	var l [][2]int
	for i := 0; i < len(m.free); i++ {
		if !m.free[i] {
			continue
		}
		first := i
		for i+1 < len(m.free) && m.free[i+1] {
			i++
		}
		l = append(l, [2]int{m.from + 16*first, m.from + 16*i + 16})
	}
	return l
}

func (m *model) take(n int) (int, bool) {
	if n < 1 || n%16 != 0 {
		return 0, false
	}
	for _, run := range m.runs() {
		if run[1]-run[0] >= n {
			for at := run[0]; at < run[0]+n; at += 16 {
				m.free[(at-m.from)/16] = false
			}
			return run[0], true
		}
	}
	return 0, false
}

func (m *model) give(at int, n int) bool {
	size := 16 * len(m.free)
	if at%16 != 0 || n%16 != 0 || n < 1 || at < m.from || at-m.from > size || n > size-(at-m.from) {
		return false
	}
	first, many := (at-m.from)/16, n/16
	if slices.Contains(m.free[first:first+many], true) {
		return false
	}
	for i := range many {
		m.free[first+i] = true
	}
	return true
}

// hold holds what is free against the model.
func hold(t *testing.T, f *extent.Free, m *model) {
	t.Helper()
	all, most := 0, 0
	for _, run := range m.runs() {
		all += run[1] - run[0]
		most = max(most, run[1]-run[0])
	}
	if !slices.Equal(f.Runs(), m.runs()) || f.All() != all || f.Most() != most {
		t.Fatal(f.Runs(), f.All(), f.Most(), m.runs())
	}
}

func TestP121New(t *testing.T) {
	places := []int{math.MinInt, -32, -16, -1, 0, 1, 8, 15, 16, 17, 64, 256, highest - 16, highest - 1, highest, highest + 1, highest + 16, math.MaxInt - 15, math.MaxInt}
	for _, from := range places {
		for _, to := range places {
			want := from%16 == 0 && to%16 == 0 && 0 <= from && from <= to && to <= highest
			f := extent.New(from, to)
			if (f != nil) != want {
				t.Error(from, to)
			}
			if f == nil {
				continue
			}
			if f.All() != to-from || f.Most() != to-from {
				t.Error(from, to, f.All(), f.Most())
			}
			var runs [][2]int
			if from < to {
				runs = [][2]int{{from, to}}
			}
			if !slices.Equal(f.Runs(), runs) {
				t.Error(from, to, f.Runs())
			}
		}
	}
}

func TestP121OfNothing(t *testing.T) {
	f := extent.New(32, 32)
	if at, is := f.Take(16); at != 0 || is {
		t.Error(at)
	}
	for _, at := range []int{0, 16, 32, 48} {
		if f.Give(at, 16) || f.Give(at, 0) {
			t.Error(at)
		}
	}
}

func TestP121Take(t *testing.T) {
	f := extent.New(0, 64)
	if at, is := f.Take(16); at != 0 || !is {
		t.Error(at)
	}
	if at, is := f.Take(32); at != 16 || !is {
		t.Error(at)
	}
	f, m := extent.New(64, 192), newModel(64, 192)
	for _, n := range []int{math.MinInt, -16, -1, 0, 1, 8, 15, 17, 31, 144, math.MaxInt - 15, math.MaxInt, 48, 16, 80, 64, 32, 16} {
		want, right := m.take(n)
		if at, is := f.Take(n); at != want || is != right {
			t.Error(n, at, is)
		}
		hold(t, f, m)
	}
}

func TestP121TakesOfTheFirstRunThatHas(t *testing.T) {
	f := extent.New(0, 160)
	f.Take(160)
	f.Give(0, 16)
	f.Give(32, 32)
	f.Give(80, 48)
	for _, row := range [][2]int{{32, 32}, {48, 80}, {16, 0}} {
		if at, is := f.Take(row[0]); at != row[1] || !is {
			t.Error(row, at)
		}
	}
	if at, is := f.Take(16); at != 0 || is {
		t.Error(at, is)
	}
}

func TestP121Give(t *testing.T) {
	places := []int{math.MinInt, -16, 0, 32, 48, 56, 64, 80, 96, 104, 112, 128, 144, 160, 176, 192, 208, math.MaxInt - 15, math.MaxInt}
	counts := []int{math.MinInt, -16, -1, 0, 1, 8, 16, 24, 32, 48, 64, 112, 128, 144, math.MaxInt - 15, math.MaxInt}
	for _, at := range places {
		for _, n := range counts {
			f, m := extent.New(64, 192), newModel(64, 192)
			f.Take(128)
			m.take(128)
			f.Give(112, 16)
			m.give(112, 16)
			if f.Give(at, n) != m.give(at, n) {
				t.Fatal(at, n)
			}
			hold(t, f, m)
		}
	}
}

func TestP121RunsAreNewMemory(t *testing.T) {
	f := extent.New(0, 64)
	f.Take(16)
	runs := f.Runs()
	runs[0] = [2]int{7, 7}
	_ = append(runs, [2]int{9, 9})
	if !slices.Equal(f.Runs(), [][2]int{{16, 64}}) {
		t.Error(f.Runs())
	}
}

func TestP122Apart(t *testing.T) {
	r := rand.New(rand.NewSource(21))
	for range 60 {
		from := 16 * r.Intn(20)
		to := from + 16*r.Intn(60)
		f, m := extent.New(from, to), newModel(from, to)
		taken := map[int]int{}
		for range 200 {
			if n := 16 * (r.Intn(6) + 1); r.Intn(2) == 0 {
				want, right := m.take(n)
				at, is := f.Take(n)
				if at != want || is != right {
					t.Fatal(n, at, is, want)
				}
				if is {
					taken[at] = n
				}
			} else {
				for at, n := range taken {
					if !f.Give(at, n) || f.Give(at, n) {
						t.Fatal(at, n)
					}
					m.give(at, n)
					delete(taken, at)
					break
				}
			}
			hold(t, f, m)
			whole(t, f, taken, from, to)
		}
	}
}

// whole holds that all that is taken, and free, is the memory, each granule once.
func whole(t *testing.T, f *extent.Free, taken map[int]int, from int, to int) {
	t.Helper()
	times := make([]int, (to-from)/16)
	for at, n := range taken {
		for i := range n / 16 {
			times[(at-from)/16+i]++
		}
	}
	for _, run := range f.Runs() {
		for at := run[0]; at < run[1]; at += 16 {
			times[(at-from)/16]++
		}
	}
	if slices.ContainsFunc(times, func(n int) bool { return n != 1 }) {
		t.Fatal(times)
	}
}

func TestP122GivesOfAnyPart(t *testing.T) {
	r := rand.New(rand.NewSource(22))
	for range 100 {
		f, m := extent.New(160, 800), newModel(160, 800)
		f.Take(640)
		m.take(640)
		for range 60 {
			at, n := 16*r.Intn(60), 16*r.Intn(8)
			if r.Intn(9) == 0 {
				at += r.Intn(16)
			}
			if f.Give(at, n) != m.give(at, n) {
				t.Fatal(at, n)
			}
			hold(t, f, m)
			if r.Intn(4) == 0 {
				f.Take(16)
				m.take(16)
			}
		}
	}
}

func TestP123Together(t *testing.T) {
	r := rand.New(rand.NewSource(23))
	for range 200 {
		many := 1 + r.Intn(20)
		f := extent.New(32, 32+16*many)
		order := r.Perm(many)
		f.Take(16 * many)
		for i, place := range order {
			if !f.Give(32+16*place, 16) {
				t.Fatal(order, i)
			}
			runs := f.Runs()
			for j := 1; j < len(runs); j++ {
				if runs[j-1][1] >= runs[j][0] {
					t.Fatal(runs)
				}
			}
		}
		if !slices.Equal(f.Runs(), [][2]int{{32, 32 + 16*many}}) || f.Most() != 16*many {
			t.Fatal(f.Runs())
		}
	}
}

package sweep_test

import (
	"bytes"
	"math"
	"math/rand"
	"slices"
	"testing"

	"seizin/api"
	"seizin/shadow"
	"seizin/sweep"
	"seizin/tagmem"
)

// to is a capability to a granule.
func to(at int) api.Cap { return api.Cap{Tag: true, Base: at, Top: at + 16, At: at, Perms: 3} }

// fresh is a memory, a map of it, and a sweeper of both.
func fresh(pages int) (*tagmem.Mem, *shadow.Map, *sweep.Sweeper) {
	m, s := tagmem.New(pages), shadow.New(16*pages)
	return m, s, sweep.New(m, s)
}

func TestP101OfNothing(t *testing.T) {
	_, _, s := fresh(3)
	if s.Runs() || s.Left() != 0 || s.Gone() != 0 || s.Step(1) != 0 || s.Runs() {
		t.Error("at first")
	}
	if !s.Begin() || !s.Runs() || s.Left() != 0 {
		t.Error("begin")
	}
	if s.Begin() || s.Step(0) != 0 || s.Step(-1) != 0 || s.Step(math.MinInt) != 0 || !s.Runs() {
		t.Error("no page")
	}
	if s.Step(1) != 0 || s.Runs() {
		t.Error("example")
	}
}

func TestP101PagesInOrder(t *testing.T) {
	m, painted, s := fresh(9)
	pages := []int{1, 3, 4, 8}
	for _, page := range pages {
		m.StoreCap(256*page+16, to(32))
		m.StoreCap(256*page+240, to(64))
	}
	painted.Paint(32, 48, true)
	if !s.Begin() || s.Left() != 4 || s.Gone() != 0 || len(m.Tags()) != 8 {
		t.Fatal("begin", s.Left())
	}
	for i, page := range pages {
		if !s.Runs() || s.Begin() || s.Step(0) != 0 || s.Left() != 4-i {
			t.Fatal(page, s.Left())
		}
		if !m.Tag(256*page + 16) {
			t.Fatal(page, "too soon")
		}
		if s.Step(1) != 1 || s.Gone() != i+1 || m.Tag(256*page+16) || !m.Tag(256*page+240) {
			t.Fatal(page)
		}
	}
	if s.Runs() || s.Left() != 0 || s.Step(1) != 0 || s.Gone() != 4 {
		t.Error("over", s.Left(), s.Gone())
	}
	if !slices.Equal(m.Dirty(), pages) {
		t.Error(m.Dirty())
	}
}

func TestP101CleansWhatItSweeps(t *testing.T) {
	m, painted, s := fresh(4)
	m.StoreCap(0, to(32))
	m.StoreCap(256, to(64))
	m.StoreCap(512, to(64))
	m.Strip(512)
	painted.Paint(32, 48, true)
	s.Begin()
	m.StoreCap(768, to(64))
	if s.Step(math.MaxInt) != 3 || s.Runs() || s.Left() != 0 {
		t.Error(s.Left())
	}
	if !slices.Equal(m.Dirty(), []int{1, 3}) {
		t.Error(m.Dirty())
	}
}

func TestP101StepsOfMany(t *testing.T) {
	for _, many := range []int{1, 2, 3, 4, 5, 6, 100, math.MaxInt} {
		m, painted, s := fresh(6)
		for page := range 5 {
			m.StoreCap(256*page, to(0))
		}
		painted.Paint(0, 16, true)
		s.Begin()
		for left := 5; left > 0; {
			want := min(many, left)
			if got := s.Step(many); got != want {
				t.Fatal(many, got, want)
			}
			left -= want
			if s.Left() != left || s.Runs() != (left > 0) || s.Gone() != 5-left {
				t.Fatal(many, s.Left())
			}
		}
		if len(m.Tags()) != 0 || len(m.Dirty()) != 0 {
			t.Error(many, m.Tags())
		}
		m.StoreCap(16, to(0))
		if !s.Begin() || s.Left() != 1 || s.Step(1) != 1 || s.Gone() != 6 {
			t.Error(many, "again")
		}
	}
}

func TestP101Barrier(t *testing.T) {
	_, painted, s := fresh(2)
	painted.Paint(32, 48, true)
	sealed := to(32)
	sealed.Type, sealed.Perms, sealed.At = 7, 99, 5
	rows := []struct {
		c    api.Cap
		hits bool
	}{
		{to(16), false}, {to(32), true}, {sealed, true}, {to(48), false}, {api.Cap{Base: 32, Top: 48}, false},
		{api.Cap{Tag: true, Base: 32, Top: 32}, false}, {api.Cap{Tag: true, Base: 31, Top: 48}, false},
		{api.Cap{Tag: true, Base: 47, Top: 48}, true}, {api.Cap{}, false}, {api.Cap{Tag: true, Base: -9, Top: 48}, false},
	}
	var l, want []api.Cap
	for i, row := range rows {
		right := row.c
		right.Tag = row.c.Tag && !row.hits
		if got := s.Barrier(row.c); got != right {
			t.Error(i, got)
		}
		l, want = append(l, row.c), append(want, right)
	}
	before := slices.Clone(l)
	got := s.All(l)
	if !slices.Equal(got, want) || !slices.Equal(l, before) {
		t.Error(got)
	}
	if len(s.All(nil)) != 0 || len(s.All([]api.Cap{})) != 0 {
		t.Error("of none")
	}
	got[0] = api.Cap{At: 9}
	if l[0] != before[0] {
		t.Error("shared")
	}
}

// store has random capabilities stand in a memory.
func store(r *rand.Rand, m *tagmem.Mem, many int) {
	for range many {
		c := to(r.Intn(m.Size()/16) * 16)
		c.Base += r.Intn(16)
		c.Tag = r.Intn(5) > 0
		if r.Intn(5) == 0 {
			c.Top = c.Base
		}
		m.StoreCap(r.Intn(m.Size()/16)*16, c)
	}
}

// held are all that stand in a memory.
func held(m *tagmem.Mem) map[int]api.Cap {
	l := map[int]api.Cap{}
	for at := 0; at < m.Size(); at += 16 {
		l[at], _ = m.LoadCap(at)
	}
	return l
}

func TestP102AllOfThem(t *testing.T) {
	r := rand.New(rand.NewSource(18))
	for range 200 {
		m, painted, s := fresh(1 + r.Intn(8))
		store(r, m, r.Intn(60))
		from := r.Intn(m.Size() / 16)
		painted.Paint(16*from, 16*(from+r.Intn(m.Size()/16-from+1)), true)
		s.Begin()
		for s.Runs() {
			// What is stored meanwhile went through the barrier.
			c := s.Barrier(to(r.Intn(m.Size()/16) * 16))
			m.StoreCap(r.Intn(m.Size()/16)*16, c)
			s.Step(1 + r.Intn(3))
		}
		for at, c := range held(m) {
			if painted.Hits(c) {
				t.Fatal(at, c)
			}
		}
	}
}

func TestP103NoOtherOne(t *testing.T) {
	r := rand.New(rand.NewSource(19))
	for range 200 {
		m, painted, s := fresh(1 + r.Intn(8))
		store(r, m, r.Intn(60))
		from := r.Intn(m.Size() / 16)
		painted.Paint(16*from, 16*(from+r.Intn(m.Size()/16-from+1)), true)
		all, _ := m.Load(0, m.Size())
		before, gone := held(m), 0
		s.Begin()
		s.Step(1 + r.Intn(9))
		s.Step(100)
		for at, c := range held(m) {
			want := before[at]
			if painted.Hits(want) {
				want.Tag = false
				gone++
			}
			if c != want {
				t.Fatal(at, c, want)
			}
		}
		if s.Gone() != gone {
			t.Fatal(s.Gone(), gone)
		}
		if again, _ := m.Load(0, m.Size()); !bytes.Equal(again, all) {
			t.Fatal("bytes were changed")
		}
	}
}

func TestP104InTime(t *testing.T) {
	r := rand.New(rand.NewSource(20))
	for range 300 {
		m, painted, s := fresh(1 + r.Intn(12))
		painted.Paint(0, 16*r.Intn(m.Size()/16), true)
		store(r, m, r.Intn(20))
		dirty, swept := len(m.Dirty()), 0
		s.Begin()
		for swept < dirty {
			if !s.Runs() || s.Left() != dirty-swept {
				t.Fatal(dirty, swept, s.Left())
			}
			store(r, m, 3)
			swept += s.Step(1 + r.Intn(3))
		}
		if swept != dirty || s.Runs() != (dirty == 0) {
			t.Fatal(dirty, swept)
		}
	}
}

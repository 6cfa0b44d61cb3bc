package clos_test

import (
	"math"
	"math/rand"
	"slices"
	"testing"

	"seizin/api"
	"seizin/cap"
	"seizin/clos"
	"seizin/derive"
)

// authority: has an open one authority with a permission over a type?
func authority(open []api.Cap, p int, kind int) bool {
	for _, o := range open {
		lacks := false
		for bit := 1; bit < 128; bit *= 2 {
			lacks = lacks || p/bit%2 == 1 && o.Perms/bit%2 == 0
		}
		if !lacks && o.Base <= kind && kind < o.Top {
			return true
		}
	}
	return false
}

// opened are all open ones, found by going over the grants till nothing is new.
func opened(l []api.Cap) []api.Cap {
	var open []api.Cap
	done := make([]bool, len(l))
	for more := true; more; {
		more = false
		for i, c := range l {
			if done[i] || !c.Tag || !cap.Right(c) {
				continue
			}
			if c.Type < 2 || authority(open, api.Unseal, c.Type) {
				c.Type, c.At = 0, c.Base
				open = append(open, c)
				done[i], more = true, true
			}
		}
	}
	return open
}

// maximal are the open ones that are to be told.
func maximal(open []api.Cap) []api.Cap {
	var l []api.Cap
	for _, c := range open {
		great := !slices.Contains(l, c)
		for _, d := range open {
			great = great && (c == d || !cap.Under(c, d))
		}
		if great {
			l = append(l, c)
		}
	}
	slices.SortFunc(l, func(c api.Cap, d api.Cap) int {
		for _, pair := range [][2]int{{c.Base, d.Base}, {c.Top, d.Top}, {c.Perms, d.Perms}} {
			if pair[0] != pair[1] {
				return pair[0] - pair[1]
			}
		}
		return 0
	})
	return l
}

// types are those over which there is an authority.
func types(open []api.Cap, p int) []int {
	var l []int
	for kind := 2; kind <= 255; kind++ {
		if p >= 0 && p <= 127 && authority(open, p, kind) {
			l = append(l, kind)
		}
	}
	return l
}

// has is what Has is to answer.
func has(l []api.Cap, c api.Cap) bool {
	if !cap.Right(c) {
		return false
	}
	if !c.Tag {
		return true
	}
	for _, g := range l {
		g.At = c.At
		if g == c {
			return true
		}
	}
	open := opened(l)
	under := false
	for _, o := range open {
		under = under || cap.Under(c, o)
	}
	switch {
	case c.Type == 0:
		return under
	case c.Type == 1:
		return under && c.Perms/4%2 == 1
	}
	return under && authority(open, api.Seal, c.Type)
}

// one is a right tagged one, near the types, so that some open others.
func one(r *rand.Rand) api.Cap {
	base := r.Intn(12)
	c := api.Cap{Tag: true, Base: base, Top: base + r.Intn(8), At: r.Intn(20), Perms: r.Intn(128)}
	if r.Intn(2) == 0 {
		c.Type = r.Intn(14)
	}
	if r.Intn(2) == 0 {
		c.Perms &= api.Unseal | api.Read
	}
	if r.Intn(4) == 0 {
		c.Base, c.Top, c.Type = 0, r.Intn(300), r.Intn(256)
	}
	return c
}

// some are grants, and some that are none.
func some(r *rand.Rand, many int) []api.Cap {
	var l []api.Cap
	for range many {
		c := one(r)
		switch r.Intn(9) {
		case 0:
			c.Tag = false
		case 1:
			c.Base, c.Top = c.Top+1, c.Base
		case 2:
			c.Perms = 128 + r.Intn(4)
		}
		l = append(l, c)
		if r.Intn(6) == 0 {
			l = append(l, c)
		}
	}
	return l
}

func TestP61Open(t *testing.T) {
	r := rand.New(rand.NewSource(6))
	for range 3000 {
		l := some(r, r.Intn(9))
		want := maximal(opened(l))
		if got := clos.New(l).Open(); !slices.Equal(got, want) {
			t.Fatal(l, got, want)
		}
	}
}

func TestP61OpenInOrder(t *testing.T) {
	l := []api.Cap{
		{Tag: true, Base: 8, Top: 20, At: 9, Perms: 1},
		{Tag: true, Base: 4, Top: 12, At: 5, Perms: 2},
		{Tag: true, Base: 4, Top: 10, At: 5, Perms: 12},
		{Tag: true, Base: 4, Top: 12, At: 6, Perms: 1},
		{Tag: true, Base: 4, Top: 12, At: 7, Perms: 1},
		{Tag: true, Base: 5, Top: 12, At: 7, Perms: 1},
		{Tag: true, Base: 9, Top: 9},
	}
	want := []api.Cap{
		{Tag: true, Base: 4, Top: 10, At: 4, Perms: 12},
		{Tag: true, Base: 4, Top: 12, At: 4, Perms: 1},
		{Tag: true, Base: 4, Top: 12, At: 4, Perms: 2},
		{Tag: true, Base: 8, Top: 20, At: 8, Perms: 1},
	}
	for i := range l {
		turned := append(slices.Clone(l[i:]), l[:i]...)
		if got := clos.New(turned).Open(); !slices.Equal(got, want) {
			t.Error(i, got)
		}
		slices.Reverse(turned)
		if got := clos.New(turned).Open(); !slices.Equal(got, want) {
			t.Error(i, got)
		}
	}
}

func TestP61OpensAsLongAsThereIsOne(t *testing.T) {
	chain := []api.Cap{
		{Tag: true, Base: 100, Top: 200, Perms: 3, Type: 255},
		{Tag: true, Base: 255, Top: 256, At: 255, Perms: 64, Type: 2},
		{Tag: true, Base: 2, Top: 3, At: 2, Perms: 64, Type: 9},
		{Tag: true, Base: 9, Top: 10, At: 9, Perms: 64, Type: 1},
	}
	want := []api.Cap{
		{Tag: true, Base: 2, Top: 3, At: 2, Perms: 64},
		{Tag: true, Base: 9, Top: 10, At: 9, Perms: 64},
		{Tag: true, Base: 100, Top: 200, At: 100, Perms: 3},
		{Tag: true, Base: 255, Top: 256, At: 255, Perms: 64},
	}
	if got := clos.New(chain).Open(); !slices.Equal(got, want) {
		t.Error(got)
	}
	for _, perms := range []int{63, 32, 0} {
		cut := slices.Clone(chain)
		cut[2].Perms = perms
		if got := clos.New(cut).Open(); len(got) != 2 {
			t.Error(perms, got)
		}
	}
}

func TestP61Types(t *testing.T) {
	r := rand.New(rand.NewSource(7))
	for range 300 {
		l := some(r, r.Intn(9))
		s, open := clos.New(l), opened(l)
		for _, p := range []int{math.MinInt, -1, 0, 1, 32, 64, 96, 100, 127, 128, 160, math.MaxInt} {
			if got := s.Types(p); !slices.Equal(got, types(open, p)) {
				t.Fatal(l, p, got)
			}
		}
	}
	all := clos.New([]api.Cap{cap.Root(1 << 24)}).Types(96)
	if len(all) != 254 || all[0] != 2 || all[253] != 255 {
		t.Error(all)
	}
	if got := clos.New([]api.Cap{{Tag: true, Base: 2, Top: 2, Perms: 127}, {Tag: true, Base: 0, Top: 2, Perms: 127}, {Tag: true, Base: 256, Top: 300, Perms: 127}}).Types(32); len(got) != 0 {
		t.Error(got)
	}
}

func TestP61Has(t *testing.T) {
	r := rand.New(rand.NewSource(8))
	yes := 0
	for range 1500 {
		l := some(r, r.Intn(7))
		s := clos.New(l)
		asked := append(some(r, 12), l...)
		for _, g := range l {
			g.At++
			asked = append(asked, g)
			g.Type = r.Intn(14)
			asked = append(asked, g)
			g.Type, g.Base, g.Perms = r.Intn(14), g.Base+1, g.Perms&^r.Intn(128)
			asked = append(asked, g)
		}
		for _, c := range asked {
			want := has(l, c)
			if got := s.Has(c); got != want {
				t.Fatal(l, c, got)
			}
			if want && c.Tag {
				yes++
			}
		}
	}
	if yes == 0 {
		t.Error("none was had")
	}
}

func TestP61HasOfNothing(t *testing.T) {
	for _, s := range []*clos.Set{clos.New(nil), clos.New([]api.Cap{{At: 7}, {Tag: true, Base: 2, Top: 1}})} {
		if !s.Has(cap.Int(9)) || !s.Has(api.Cap{Base: 9, Top: 1, Perms: 127, Type: 255}) {
			t.Error("what is not tagged")
		}
		for _, c := range []api.Cap{{Tag: true}, {At: -1}, {Perms: 128}, {Type: 256}, {Tag: true, Base: 2, Top: 1}} {
			if s.Has(c) {
				t.Error(c)
			}
		}
		if len(s.Open()) != 0 || len(s.Types(0)) != 0 || len(s.Types(96)) != 0 {
			t.Error("something is open")
		}
	}
}

func TestP61HasOfEntries(t *testing.T) {
	s := clos.New([]api.Cap{{Tag: true, Base: 16, Top: 48, Perms: 5}, {Tag: true, Base: 64, Top: 80, Perms: 1, Type: 1}, {Tag: true, Base: 96, Top: 100, Perms: 3, Type: 7}})
	for i, row := range []struct {
		c    api.Cap
		want bool
	}{
		{api.Cap{Tag: true, Base: 16, Top: 48, Perms: 5, Type: 1}, true},
		{api.Cap{Tag: true, Base: 16, Top: 48, Perms: 4, Type: 1}, true},
		{api.Cap{Tag: true, Base: 16, Top: 48, Perms: 1, Type: 1}, false},
		{api.Cap{Tag: true, Base: 64, Top: 80, Perms: 1, At: 3, Type: 1}, true},
		{api.Cap{Tag: true, Base: 64, Top: 79, Perms: 1, Type: 1}, false},
		{api.Cap{Tag: true, Base: 64, Top: 79, Perms: 1}, true},
		{api.Cap{Tag: true, Base: 96, Top: 100, Perms: 3, At: 5, Type: 7}, true},
		{api.Cap{Tag: true, Base: 96, Top: 100, Perms: 1, Type: 7}, false},
		{api.Cap{Tag: true, Base: 96, Top: 100, Perms: 3}, false},
		{api.Cap{Tag: true, Base: 16, Top: 48, Perms: 5, Type: 2}, false},
	} {
		if s.Has(row.c) != row.want {
			t.Error(i)
		}
	}
}

func TestP61AnswersHangOnTheArgumentAlone(t *testing.T) {
	l := []api.Cap{{Tag: true, Base: 16, Top: 48, At: 20, Perms: 127}, {Tag: true, Base: 2, Top: 9, At: 3, Perms: 127}, {At: 99}}
	before := slices.Clone(l)
	s := clos.New(l[:2])
	open, kinds := s.Open(), s.Types(32)
	if !slices.Equal(l, before) {
		t.Error(l)
	}
	l[0], l[1] = api.Cap{}, api.Cap{}
	open[0], kinds[0] = api.Cap{}, 99
	_, _ = append(open, api.Cap{At: 1}), append(kinds, 1)
	if got := s.Open(); len(got) != 2 || got[0] != (api.Cap{Tag: true, Base: 2, Top: 9, At: 2, Perms: 127}) {
		t.Error(got)
	}
	if got := s.Types(32); got[0] != 2 || !s.Has(before[0]) || !s.Has(before[1]) {
		t.Error(got)
	}
}

// made is all that package derive makes of two.
func made(c api.Cap, d api.Cap, n int) []api.Cap {
	l := []api.Cap{derive.Clear(c)}
	add := func(made api.Cap, err api.Errno) {
		if err == api.OK {
			l = append(l, made)
		}
	}
	add(derive.Bounds(c, n))
	add(derive.Perms(c, n))
	add(derive.Move(c, n))
	add(derive.Seal(c, d))
	add(derive.Unseal(c, d))
	add(derive.Enter(c))
	add(derive.Build(c, d))
	return l
}

func TestP62Closed(t *testing.T) {
	r := rand.New(rand.NewSource(9))
	for range 400 {
		l := some(r, 1+r.Intn(6))
		s := clos.New(l)
		var held []api.Cap
		for _, c := range append(l, api.Cap{Base: 3, Top: 9, Perms: 5}, cap.Int(7)) {
			if s.Has(c) {
				held = append(held, c)
			}
		}
		for range 150 {
			c, d := held[r.Intn(len(held))], held[r.Intn(len(held))]
			for _, m := range made(c, d, r.Intn(16)) {
				if !s.Has(m) {
					t.Fatal(l, c, d, m)
				}
				held = append(held, m)
			}
		}
	}
}

func TestP63NoMore(t *testing.T) {
	r := rand.New(rand.NewSource(10))
	yes := 0
	for range 1000 {
		l := some(r, r.Intn(6))
		s := clos.New(l)
		for range 40 {
			c := one(r)
			if !s.Has(c) {
				continue
			}
			yes++
			if !slices.ContainsFunc(l, func(g api.Cap) bool { return g.Tag && cap.Right(g) && cap.Under(c, g) }) {
				t.Fatal(l, c)
			}
		}
	}
	if yes == 0 {
		t.Error("none was had")
	}
}

func TestP64AnOrder(t *testing.T) {
	r := rand.New(rand.NewSource(11))
	for range 600 {
		l := some(r, 1+r.Intn(5))
		few := clos.New(l)
		more := clos.New(append(slices.Clone(l), some(r, 3)...))
		var had []api.Cap
		for range 40 {
			c := one(r)
			if few.Has(c) {
				had = append(had, c)
				if !more.Has(c) {
					t.Fatal(l, c)
				}
			}
		}
		of := clos.New(had)
		for range 40 {
			if c := one(r); of.Has(c) && !few.Has(c) {
				t.Fatal(l, had, c)
			}
		}
	}
}

package heap_test

import (
	"math"
	"math/rand"
	"slices"
	"testing"

	"seizin/api"
	"seizin/cap"
	"seizin/heap"
	"seizin/shadow"
	"seizin/size"
)

const most = 1 << 24

// rootOf is a root of a heap.
func rootOf(from int, to int) api.Cap {
	return api.Cap{Tag: true, Base: from, Top: to, At: from + 3, Perms: 27}
}

// fresh is a heap, and the map on which it paints.
func fresh(from int, to int, full int) (*heap.Heap, *shadow.Map) {
	s := shadow.New(to/16 + 4)
	return heap.New(rootOf(from, to), s, full), s
}

// take is Alloc of what there has to be.
func take(t *testing.T, h *heap.Heap, n int) api.Cap {
	t.Helper()
	c, err := h.Alloc(n)
	if err != api.OK {
		t.Fatal(n, err)
	}
	return c
}

func TestP141New(t *testing.T) {
	s := shadow.New(1 << 20)
	for i, row := range []struct {
		root api.Cap
		full int
		want bool
	}{
		{rootOf(256, 512), 16, true},
		{rootOf(0, most), 1, true},
		{rootOf(64, 64), most, true},
		{rootOf(256, 512), 0, false},
		{rootOf(256, 512), -1, false},
		{rootOf(256, 512), math.MinInt, false},
		{rootOf(256, 512), most + 1, false},
		{rootOf(256, 512), math.MaxInt, false},
		{rootOf(264, 512), 16, false},
		{rootOf(256, 520), 16, false},
		{rootOf(512, 256), 16, false},
		{rootOf(0, most+16), 16, false},
		{rootOf(-16, 256), 16, false},
		{api.Cap{Base: 256, Top: 512}, 16, false},
		{api.Cap{Tag: true, Base: 256, Top: 512, Type: 1}, 16, false},
		{api.Cap{Tag: true, Base: 256, Top: 512, Type: 7}, 16, false},
		{api.Cap{Tag: true, Base: 256, Top: 512, Perms: 128}, 16, false},
		{api.Cap{Tag: true, Base: 256, Top: 512, At: -1}, 16, false},
		{api.Cap{Tag: true, Base: 256, Top: 512}, 16, true},
		{api.Cap{}, 16, false},
	} {
		h := heap.New(row.root, s, row.full)
		if (h != nil) != row.want {
			t.Error(i)
		}
		if h == nil {
			continue
		}
		many, bytes := h.Live()
		if many != 0 || bytes != 0 || h.Apart() != 0 || h.Left() != row.root.Top-row.root.Base || h.Now() != 0 || h.Runs() || h.Wants() || len(h.Blocks()) != 0 {
			t.Error(i, "at first")
		}
	}
}

func TestP141Alloc(t *testing.T) {
	h, _ := fresh(256, 256+2048, 64)
	for i, row := range []struct {
		n    int
		err  api.Errno
		at   int
		span int
	}{
		{20, 0, 256, 20}, {0, 0, 288, 1}, {16, 0, 304, 16}, {129, 0, 320, 129}, {1, 0, 512, 1},
		{-1, 1, 0, 0}, {65537, 1, 0, 0}, {math.MinInt, 1, 0, 0}, {math.MaxInt, 1, 0, 0}, {65536, 5, 0, 0}, {2048, 5, 0, 0},
		{1025, 0, 528, 1025}, {497, 5, 0, 0}, {384, 0, 1808, 384}, {112, 0, 2192, 112}, {0, 5, 0, 0},
	} {
		c, err := h.Alloc(row.n)
		want := api.Cap{}
		if row.err == 0 {
			want = api.Cap{Tag: true, Base: row.at, At: row.at, Top: row.at + row.span, Perms: 27}
		}
		if c != want || err != row.err {
			t.Error(i, c, err)
		}
	}
	if many, bytes := h.Live(); many != 8 || bytes != 32+16+16+192+16+1280+384+112 || h.Left() != 0 {
		t.Error(many, bytes, h.Left())
	}
}

func TestP141WhatOneIsOf(t *testing.T) {
	h, _ := fresh(256, 1024, 64)
	c := take(t, h, 20)
	nothing := take(t, h, 0)
	moved, less, more, on, sealed, plain, round := c, c, c, c, c, c, c
	moved.At, moved.Perms = 9, 0
	less.Top--
	more.Top++
	on.Base++
	sealed.Type = 1
	plain.Tag = false
	round.Top = c.Base + 32
	both, none := plain, sealed
	both.Type = 7
	none.Base, none.Top = 0, 1
	for i, row := range []struct {
		c   api.Cap
		n   int
		err api.Errno
	}{
		{c, 32, 0}, {moved, 32, 0}, {nothing, 16, 0},
		{less, 0, 43}, {more, 0, 43}, {round, 0, 43}, {on, 0, 3}, {sealed, 0, 42}, {plain, 0, 41}, {both, 0, 41}, {none, 0, 42},
		{api.Cap{Tag: true, Base: 304, Top: 320}, 0, 3}, {rootOf(256, 1024), 0, 43}, {api.Cap{}, 0, 41},
		{api.Cap{Tag: true, Base: 256, Top: math.MinInt}, 0, 43}, {api.Cap{Tag: true, Base: math.MinInt, Top: math.MaxInt}, 0, 3},
	} {
		if n, err := h.Size(row.c); n != row.n || err != row.err {
			t.Error(i, n, err)
		}
		if row.err != 0 {
			if err := h.Free(row.c); err != row.err {
				t.Error(i, err)
			}
		}
	}
	if many, bytes := h.Live(); many != 2 || bytes != 48 || h.Apart() != 0 {
		t.Error(many, bytes, h.Apart())
	}
	if h.Free(moved) != 0 || h.Free(moved) != 3 || h.Free(c) != 3 {
		t.Error("free")
	}
	if n, err := h.Size(c); n != 0 || err != 3 {
		t.Error(n, err)
	}
}

func TestP141Free(t *testing.T) {
	h, _ := fresh(256, 512, 64)
	c, d := take(t, h, 20), take(t, h, 40)
	if h.Free(c) != api.OK || h.Free(c) != api.ErrNone {
		t.Error("example")
	}
	if many, bytes := h.Live(); many != 1 || bytes != 48 || h.Apart() != 32 || h.Left() != 256-80 {
		t.Error(many, bytes, h.Apart(), h.Left())
	}
	if got := h.Blocks(); !slices.Equal(got, [][2]int{{256, 288}, {288, 336}}) {
		t.Error(got)
	}
	if h.Wants() {
		t.Error("too soon")
	}
	h.Free(d)
	if !h.Wants() || h.Apart() != 80 {
		t.Error("full")
	}
	if got := h.Blocks(); !slices.Equal(got, [][2]int{{256, 288}, {288, 336}}) {
		t.Error(got)
	}
}

func TestP141Epochs(t *testing.T) {
	h, s := fresh(256, 512, 32)
	c, d, e := take(t, h, 32), take(t, h, 16), take(t, h, 16)
	if h.End() || h.Now() != 0 {
		t.Error("none runs")
	}
	h.Free(c)
	if s.Many() != 0 || !h.Wants() {
		t.Error("before")
	}
	if !h.Begin() || h.Now() != 1 || !h.Runs() || h.Wants() || !slices.Equal(s.Runs(), [][2]int{{256, 288}}) {
		t.Error("begun", h.Now(), s.Runs())
	}
	if h.Begin() || h.Now() != 1 {
		t.Error("twice")
	}
	h.Free(d)
	if s.Many() != 2 || h.Apart() != 48 {
		t.Error("meanwhile", s.Runs())
	}
	if !h.End() || h.Now() != 2 || h.Runs() || s.Many() != 0 || h.Apart() != 16 || h.Left() != 256-32 || h.End() {
		t.Error("ended", h.Now(), s.Runs(), h.Apart(), h.Left())
	}
	h.Free(e)
	if !h.Wants() || !h.Begin() || !slices.Equal(s.Runs(), [][2]int{{288, 320}}) {
		t.Error("begun again", s.Runs())
	}
	if !h.End() || h.Apart() != 0 || h.Left() != 256 || h.Now() != 4 {
		t.Error("ended again", h.Apart())
	}
	if !h.Begin() || s.Many() != 0 || !h.End() || h.Now() != 6 {
		t.Error("of nothing")
	}
}

func TestP141PaintsNoMoreThanItsOwn(t *testing.T) {
	h, s := fresh(256, 512, 16)
	s.Paint(0, 64, true)
	c := take(t, h, 100)
	h.Free(c)
	h.Begin()
	if !slices.Equal(s.Runs(), [][2]int{{0, 64}, {256, 368}}) {
		t.Error(s.Runs())
	}
	h.End()
	if !slices.Equal(s.Runs(), [][2]int{{0, 64}}) {
		t.Error(s.Runs())
	}
}

func TestP141BlocksAreNewMemory(t *testing.T) {
	h, _ := fresh(256, 512, 16)
	take(t, h, 16)
	l := h.Blocks()
	l[0] = [2]int{}
	_ = append(l, [2]int{1, 2})
	if !slices.Equal(h.Blocks(), [][2]int{{256, 272}}) {
		t.Error(h.Blocks())
	}
}

// block is one that a script has taken: what is to it, how much it takes, and when it was freed.
type block struct {
	c     api.Cap
	takes int
	freed int64
}

// script is a heap, and what it has to have.
type script struct {
	h           *heap.Heap
	s           *shadow.Map
	from, to    int
	live, apart []block
}

// step does anything with the heap, and holds what it answers.
func (x *script) step(t *testing.T, r *rand.Rand) {
	t.Helper()
	switch r.Intn(6) {
	case 0, 1, 2:
		n := r.Intn(300)
		takes, _ := size.Round(n)
		c, err := x.h.Alloc(n)
		if err == api.OK {
			x.live = append(x.live, block{c: c, takes: takes})
		} else if err != api.ErrFull {
			t.Fatal(n, err)
		}
	case 3, 4:
		if len(x.live) == 0 {
			return
		}
		i := r.Intn(len(x.live))
		b := x.live[i]
		if n, err := x.h.Size(b.c); n != b.takes || err != 0 {
			t.Fatal(b, n, err)
		}
		if err := x.h.Free(b.c); err != 0 {
			t.Fatal(b, err)
		}
		b.freed = x.h.Now()
		x.live, x.apart = slices.Delete(x.live, i, i+1), append(x.apart, b)
	default:
		if x.h.Begin() {
			return
		}
		if !x.h.End() {
			t.Fatal("neither begins nor ends")
		}
		// What was freed while no epoch ran, or in one that ended long since, is due.
		x.apart = slices.DeleteFunc(x.apart, func(b block) bool { return b.freed+2+b.freed%2 <= x.h.Now() })
	}
}

// hold holds that all is apart, and that all together is what the root spans.
func (x *script) hold(t *testing.T) {
	t.Helper()
	var blocks [][2]int
	live, apart := 0, 0
	for _, b := range x.live {
		blocks = append(blocks, [2]int{b.c.Base, b.c.Base + b.takes})
		live += b.takes
	}
	for _, b := range x.apart {
		blocks = append(blocks, [2]int{b.c.Base, b.c.Base + b.takes})
		apart += b.takes
	}
	slices.SortFunc(blocks, func(a [2]int, b [2]int) int { return a[0] - b[0] })
	if !slices.Equal(x.h.Blocks(), blocks) {
		t.Fatal(x.h.Blocks(), blocks)
	}
	end := x.from
	for _, b := range blocks {
		if b[0] < end || b[1] > x.to {
			t.Fatal(blocks)
		}
		end = b[1]
	}
	many, bytes := x.h.Live()
	if many != len(x.live) || bytes != live || x.h.Apart() != apart || x.h.Left() != x.to-x.from-live-apart {
		t.Fatal(many, bytes, x.h.Apart(), x.h.Left())
	}
	for _, b := range x.live {
		if !cap.Under(b.c, rootOf(x.from, x.to)) || x.s.Is(b.c.Base) || x.s.Is(b.c.Base+b.takes-1) {
			t.Fatal(b)
		}
	}
}

func TestP142Apart(t *testing.T) {
	r := rand.New(rand.NewSource(26))
	for range 60 {
		x := &script{from: 16 * r.Intn(30)}
		x.to = x.from + 16*r.Intn(200)
		x.h, x.s = fresh(x.from, x.to, 100)
		for range 250 {
			x.step(t, r)
			x.hold(t)
		}
	}
}

func TestP143NotAgain(t *testing.T) {
	r := rand.New(rand.NewSource(27))
	again := 0
	for range 80 {
		h, _ := fresh(0, 256, 32)
		whole := map[int]bool{} // what was freed, and whether an epoch has begun behind that
		var live []api.Cap
		for range 300 {
			switch r.Intn(5) {
			case 0, 1:
				c, err := h.Alloc(16)
				if err != 0 {
					break
				}
				if _, apart := whole[c.Base]; apart {
					t.Fatal(c)
				}
				live = append(live, c)
				again++
			case 2, 3:
				if len(live) > 0 {
					h.Free(live[0])
					whole[live[0].Base] = false
					live = live[1:]
				}
			default:
				if h.Begin() {
					for at := range whole {
						whole[at] = true
					}
				} else if h.End() {
					for at, is := range whole {
						if is {
							delete(whole, at)
						}
					}
				}
			}
		}
	}
	if again < 1000 {
		t.Error("too little was given out", again)
	}
}

func TestP144Once(t *testing.T) {
	r := rand.New(rand.NewSource(28))
	for range 40 {
		h, _ := fresh(16, 2048, 100)
		live := map[api.Cap]bool{}
		var given []api.Cap
		for range 150 {
			if c, err := h.Alloc(r.Intn(90)); err == 0 {
				live[c] = true
				given = append(given, c)
			}
			if len(given) == 0 {
				continue
			}
			c := given[r.Intn(len(given))]
			if r.Intn(2) == 0 {
				c.Base, c.Top = c.Base+r.Intn(3)-1, c.Top+r.Intn(3)-1
				c.At = c.Base
			}
			// One like it may have been given out later on.
			if err := h.Free(c); (err == 0) != live[c] {
				t.Fatal(c, err)
			}
			delete(live, c)
			if r.Intn(4) == 0 && !h.Begin() {
				h.End()
			}
		}
	}
}

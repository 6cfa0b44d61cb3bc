package step_test

import (
	"bytes"
	"math/rand"
	"slices"
	"testing"

	"seizin/access"
	"seizin/alu"
	"seizin/api"
	"seizin/cap"
	"seizin/clos"
	"seizin/code"
	"seizin/derive"
	"seizin/shadow"
	"seizin/step"
	"seizin/sweep"
	"seizin/tagmem"
)

const pages = 8

// What a bench has at first: code from 256 on, data from 512 on, both 256 bytes, and an authority over the types 20 and 21.
var (
	text      = api.Cap{Tag: true, Base: 256, Top: 512, At: 256, Perms: 5}
	data      = api.Cap{Tag: true, Base: 512, Top: 768, At: 512, Perms: 27}
	authority = api.Cap{Tag: true, Base: 20, Top: 22, At: 20, Perms: 96}
	far       = api.Cap{Tag: true, Base: 1024, Top: 1 << 24, At: 2048, Perms: 31} // memory has 2048 bytes
	nothing   = api.Cap{}
)

// sealed is one, sealed with a type.
func sealed(c api.Cap, kind int) api.Cap {
	c.Type = kind
	return c
}

// at is one that stands somewhere else.
func at(c api.Cap, to int) api.Cap {
	c.At = to
	return c
}

// permits is one that permits something else.
func permits(c api.Cap, p int) api.Cap {
	c.Perms = p
	return c
}

// plain is one that is not tagged.
func plain(c api.Cap) api.Cap {
	c.Tag = false
	return c
}

// spans is one that spans something else.
func spans(c api.Cap, base int, top int) api.Cap {
	c.Base, c.Top, c.At = base, top, base
	return c
}

// bench is a thread, its memory, and a sweeper.
type bench struct {
	m *tagmem.Mem
	p *shadow.Map
	s *sweep.Sweeper
	t *step.Thread
}

// newBench is one whose thread is at the first instruction, and whose registers have something.
func newBench(l []api.Ins, has map[int]api.Cap) *bench {
	b := &bench{m: tagmem.New(pages), p: shadow.New(16 * pages)}
	b.s = sweep.New(b.m, b.p)
	b.t = step.New(text)
	for i, x := range l {
		b.m.Store(256+4*i, code.Put(x))
	}
	for r, c := range has {
		b.t.Regs().Set(r, c)
	}
	return b
}

// image is all that a bench has: of its thread, and of its memory.
type image struct {
	caps  []api.Cap
	bytes []byte
	tags  []int
	dirty []int
	many  int
}

func (b *bench) image() image {
	all, _ := b.m.Load(0, b.m.Size())
	return image{b.t.Caps(), all, b.m.Tags(), b.m.Dirty(), b.t.Frames().Many()}
}

func (x image) same(y image) bool {
	return slices.Equal(x.caps, y.caps) && bytes.Equal(x.bytes, y.bytes) && slices.Equal(x.tags, y.tags) && slices.Equal(x.dirty, y.dirty) && x.many == y.many
}

// row is an instruction, what registers have ahead of it, and what comes of it: its trap, or where the thread is, and what the register A has.
type row struct {
	x    api.Ins
	has  map[int]api.Cap
	err  api.Errno
	next int
	a    api.Cap
}

// has are three registers.
func has(one api.Cap, two api.Cap, three api.Cap) map[int]api.Cap {
	return map[int]api.Cap{1: one, 2: two, 3: three}
}

// hold holds that each row comes out as it says, and that nothing else is changed.
func hold(t *testing.T, rows []row) {
	t.Helper()
	for i, w := range rows {
		b := newBench([]api.Ins{w.x}, w.has)
		before := b.image()
		did := b.t.Step(b.m, b.s)
		if w.err != 0 {
			if did != (api.Did{Kind: api.Trapped, Err: w.err}) || !b.image().same(before) {
				t.Error(i, w.x, did)
			}
			continue
		}
		want := before
		want.caps = slices.Clone(before.caps)
		want.caps[0].At = w.next
		want.caps[1+w.x.A] = w.a
		if did != (api.Did{Kind: api.Went}) || !b.image().same(want) {
			t.Error(i, w.x, did, b.t.At(), b.t.Regs().Get(w.x.A))
		}
	}
}

func TestP211New(t *testing.T) {
	for _, c := range []api.Cap{text, nothing, sealed(data, 7), {At: -1}, {Perms: 999}} {
		th := step.New(c)
		if th.At() != c || th.Frames().Many() != 0 || !slices.Equal(th.Regs().All(), make([]api.Cap, 8)) {
			t.Error(c)
		}
		if !slices.Equal(th.Caps(), append([]api.Cap{c}, make([]api.Cap, 8)...)) {
			t.Error(th.Caps())
		}
	}
	a, b := step.New(text), step.New(text)
	a.Regs().Set(3, data)
	a.Frames().Push(api.Frame{At: text})
	if b.Regs().Get(3) != nothing || b.Frames().Many() != 0 || a.Regs().Get(3) != data || a.Frames().Many() != 1 {
		t.Error("not its own")
	}
}

func TestP211CapsAndPut(t *testing.T) {
	for frames := range 3 {
		th := step.New(text)
		want := []api.Cap{text}
		for r := range 8 {
			th.Regs().Set(r, cap.Int(100+r))
			want = append(want, cap.Int(100+r))
		}
		for f := range frames {
			var one api.Frame
			one.At = at(text, 260+4*f)
			want = append(want, one.At)
			for i := range one.Regs {
				one.Regs[i] = cap.Int(200 + 10*f + i)
				want = append(want, one.Regs[i])
			}
			th.Frames().Push(one)
		}
		if !slices.Equal(th.Caps(), want) {
			t.Error(th.Caps())
		}
		var others []api.Cap
		for i := range want {
			others = append(others, at(data, 1000+i))
		}
		for _, l := range [][]api.Cap{nil, others[:len(others)-1], append(slices.Clone(others), nothing), others[:1], append(slices.Clone(others), others[:5]...)} {
			if th.Put(l) || !slices.Equal(th.Caps(), want) {
				t.Error(frames, len(l))
			}
		}
		for i := range others {
			l := slices.Clone(others)
			l[i].Perms = 128
			if th.Put(l) || !slices.Equal(th.Caps(), want) {
				t.Error(frames, i)
			}
		}
		before := slices.Clone(others)
		if !th.Put(others) || !slices.Equal(th.Caps(), before) || th.Frames().Many() != frames || th.At() != before[0] {
			t.Error(frames, th.Caps())
		}
		clear(others)
		got := th.Caps()
		clear(got)
		if !slices.Equal(th.Caps(), before) {
			t.Error("shared")
		}
	}
}

func TestP211Fetch(t *testing.T) {
	for i, w := range []struct {
		at  api.Cap
		err api.Errno
	}{
		{nothing, api.ErrTag}, {plain(text), api.ErrTag}, {sealed(text, 1), api.ErrSeal}, {permits(text, 3), api.ErrPerm}, {at(text, 258), api.ErrAlign},
		{at(text, 512), api.ErrBound}, {at(text, 252), api.ErrBound}, {permits(far, 4), api.ErrBound}, {permits(at(far, 1<<24-4), 4), api.ErrBound},
		{api.Cap{At: -1}, api.ErrArg}, {at(text, 260), api.ErrOp}, {permits(at(far, 2044), 4), 0}, {at(text, 508), 0},
	} {
		b := newBench([]api.Ins{{Op: api.Halt}}, nil)
		b.m.Store(260, []byte{30, 0, 0, 0})
		b.t = step.New(w.at)
		before := b.image()
		want := api.Did{Kind: api.Stopped}
		if w.err != 0 {
			want = api.Did{Kind: api.Trapped, Err: w.err}
		}
		if did := b.t.Step(b.m, b.s); did != want || !b.image().same(before) {
			t.Error(i, did)
		}
	}
}

func TestP211EveryFourBytes(t *testing.T) {
	r := rand.New(rand.NewSource(40))
	for range 20000 {
		b := newBench(nil, nil)
		ins := []byte{byte(r.Intn(32)), byte(r.Intn(12)), byte(r.Intn(12)), byte(r.Intn(12))}
		b.m.Store(256, ins)
		_, err := code.Get(ins)
		did := b.t.Step(b.m, b.s)
		if (err != 0) != (did == api.Did{Kind: api.Trapped, Err: api.ErrOp}) {
			t.Fatal(ins, did)
		}
	}
}

func TestP211HaltAndSys(t *testing.T) {
	b := newBench([]api.Ins{{Op: api.Halt}}, has(data, data, data))
	before := b.image()
	for range 3 {
		if did := b.t.Step(b.m, b.s); did != (api.Did{Kind: api.Stopped}) || !b.image().same(before) {
			t.Error(did)
		}
	}
	for n := range 256 {
		b := newBench([]api.Ins{{Op: api.Sys, A: n}}, has(data, data, data))
		want := b.image()
		want.caps[0].At = 260
		if did := b.t.Step(b.m, b.s); did != (api.Did{Kind: api.Asked, N: n}) || !b.image().same(want) {
			t.Error(n, did)
		}
	}
}

func TestP211Numbers(t *testing.T) {
	big := cap.Int(-2)
	ins := func(op int) api.Ins { return api.Ins{Op: op, A: 1, B: 2, C: 3} }
	one := func(op int) api.Ins { return api.Ins{Op: op, A: 1, B: 2} }
	hold(t, []row{
		{api.Ins{Op: api.Movi, A: 1, B: 5}, has(data, data, data), 0, 260, cap.Int(5)},
		{api.Ins{Op: api.Movi, A: 7, B: -32768}, nil, 0, 260, cap.Int(1<<32 - 32768)},
		{one(api.Mov), has(nothing, data, nothing), 0, 260, data},
		{one(api.Mov), has(data, sealed(data, 9), nothing), 0, 260, sealed(data, 9)},
		{ins(api.Add), has(data, big, cap.Int(5)), 0, 260, cap.Int(3)},
		{ins(api.Add), has(nothing, data, cap.Int(5)), 0, 260, cap.Int(517)},
		{ins(api.Sub), has(nothing, cap.Int(5), cap.Int(6)), 0, 260, cap.Int(1<<32 - 1)},
		{ins(api.Mul), has(nothing, big, cap.Int(3)), 0, 260, cap.Int(1<<32 - 6)},
		{ins(api.Div), has(nothing, big, cap.Int(3)), 0, 260, cap.Int((1<<32 - 2) / 3)},
		{ins(api.Div), has(data, big, cap.Int(0)), api.ErrDiv, 0, nothing},
		{ins(api.Lt), has(nothing, cap.Int(3), big), 0, 260, cap.Int(1)},
		{ins(api.Lt), has(nothing, big, cap.Int(3)), 0, 260, cap.Int(0)},
		{ins(api.Eq), has(nothing, cap.Int(512), data), 0, 260, cap.Int(1)},
		{ins(api.Eq), has(data, cap.Int(3), data), 0, 260, cap.Int(0)},
		{one(api.Len), has(nothing, data, nothing), 0, 260, cap.Int(256)},
		{one(api.Len), has(nothing, plain(spans(data, 9, 3)), nothing), 0, 260, cap.Int(0)},
		{one(api.Off), has(nothing, at(data, 520), nothing), 0, 260, cap.Int(8)},
		{one(api.Off), has(nothing, at(data, 500), nothing), 0, 260, cap.Int(1<<32 - 12)},
		{one(api.Tag), has(nothing, data, nothing), 0, 260, cap.Int(1)},
		{one(api.Tag), has(data, plain(data), nothing), 0, 260, cap.Int(0)},
		{one(api.Addr), has(nothing, at(data, 999), nothing), 0, 260, cap.Int(999)},
		{one(api.Addr), has(nothing, sealed(data, 3), nothing), 0, 260, cap.Int(512)},
	})
}

func TestP211Jumps(t *testing.T) {
	jump := func(n int) api.Ins { return api.Ins{Op: api.Jmp, B: n} }
	zero := func(n int) api.Ins { return api.Ins{Op: api.Jz, A: 1, B: n} }
	hold(t, []row{
		{jump(0), nil, 0, 256, nothing},
		{jump(3), nil, 0, 268, nothing},
		{jump(64), nil, 0, 512, nothing},
		{jump(65), nil, api.ErrBound, 0, nothing},
		{jump(-1), nil, api.ErrBound, 0, nothing},
		{jump(-32768), nil, api.ErrBound, 0, nothing},
		{jump(32767), nil, api.ErrBound, 0, nothing},
		{zero(3), has(nothing, data, data), 0, 268, nothing},
		{zero(3), has(cap.Int(1), data, data), 0, 260, cap.Int(1)},
		{zero(3), has(at(data, 0), data, data), 0, 268, at(data, 0)},
		{zero(3), has(data, data, data), 0, 260, data},
		{zero(65), has(nothing, data, data), api.ErrBound, 0, nothing},
		{zero(65), has(cap.Int(1), data, data), 0, 260, cap.Int(1)},
	})
	b := newBench([]api.Ins{{Op: api.Mov}, {Op: api.Jmp, B: -1}}, nil)
	b.t.Step(b.m, b.s)
	if did := b.t.Step(b.m, b.s); did.Kind != api.Went || b.t.At() != text {
		t.Error(did, b.t.At())
	}
	// Nothing farther off than 65536 bytes is gone to, though it is spanned.
	for n, err := range map[int]api.Errno{16384: 0, 16385: api.ErrBound, -16384: 0, -16385: api.ErrBound} {
		b := newBench([]api.Ins{{Op: api.Jmp, B: n}}, nil)
		b.m = tagmem.New(1024)
		b.m.Store(131072, code.Put(api.Ins{Op: api.Jmp, B: n}))
		b.t = step.New(api.Cap{Tag: true, Top: 262144, At: 131072, Perms: 4})
		if did := b.t.Step(b.m, b.s); did.Err != err {
			t.Error(n, did)
		}
	}
}

func TestP211LoadsOfBytes(t *testing.T) {
	for i, w := range []row{
		{api.Ins{Op: api.Ldb, A: 1, B: 2, C: 1}, has(data, data, data), 0, 260, cap.Int(254)},
		{api.Ins{Op: api.Ldb, A: 2, B: 2, C: 0}, has(data, at(data, 515), data), 0, 260, cap.Int(4)},
		{api.Ins{Op: api.Ldw, A: 1, B: 2, C: 0}, has(data, data, data), 0, 260, cap.Int(0xfffe0304)},
		{api.Ins{Op: api.Ldw, A: 1, B: 2, C: 1}, has(data, data, data), 0, 260, cap.Int(0xfe030405)},
		{api.Ins{Op: api.Ldw, A: 1, B: 2, C: 252}, has(data, data, data), 0, 260, cap.Int(0x11)},
		{api.Ins{Op: api.Ldw, A: 1, B: 2, C: 253}, has(data, data, data), api.ErrBound, 0, nothing},
		{api.Ins{Op: api.Ldb, A: 1, B: 2, C: 255}, has(data, data, data), 0, 260, cap.Int(0x11)},
		{api.Ins{Op: api.Ldb, A: 1, B: 2, C: 255}, has(data, at(data, 513), data), api.ErrBound, 0, nothing},
		{api.Ins{Op: api.Ldb, A: 1, B: 2}, has(data, permits(data, 126), data), api.ErrPerm, 0, nothing},
		{api.Ins{Op: api.Ldw, A: 1, B: 2}, has(data, sealed(data, 9), data), api.ErrSeal, 0, nothing},
		{api.Ins{Op: api.Ldb, A: 1, B: 2}, has(data, cap.Int(512), data), api.ErrTag, 0, nothing},
		{api.Ins{Op: api.Ldb, A: 1, B: 2}, has(data, far, data), api.ErrBound, 0, nothing},
		{api.Ins{Op: api.Ldw, A: 1, B: 2}, has(data, at(far, 2045), data), api.ErrBound, 0, nothing},
		{api.Ins{Op: api.Ldw, A: 1, B: 2}, has(data, at(far, 2044), data), 0, 260, nothing},
	} {
		b := newBench([]api.Ins{w.x}, w.has)
		b.m.Store(512, []byte{255, 254, 3, 4, 5})
		b.m.Store(767, []byte{0x11})
		want := b.image()
		kind := api.Trapped
		if w.err == 0 {
			kind = api.Went
			want.caps[0].At, want.caps[1+w.x.A] = w.next, w.a
		}
		if did := b.t.Step(b.m, b.s); did != (api.Did{Kind: kind, Err: w.err}) || !b.image().same(want) {
			t.Error(i, did, b.t.Regs().Get(w.x.A))
		}
	}
}

func TestP211StoresOfBytes(t *testing.T) {
	value := cap.Int(0x01020304)
	for i, w := range []struct {
		x     api.Ins
		has   map[int]api.Cap
		err   api.Errno
		place int
		bytes []byte
	}{
		{api.Ins{Op: api.Stb, A: 1, B: 2, C: 5}, has(value, data, data), 0, 517, []byte{4}},
		{api.Ins{Op: api.Stw, A: 1, B: 2, C: 5}, has(value, data, data), 0, 517, []byte{1, 2, 3, 4}},
		{api.Ins{Op: api.Stw, A: 1, B: 2, C: 252}, has(value, data, data), 0, 764, []byte{1, 2, 3, 4}},
		{api.Ins{Op: api.Stw, A: 2, B: 2, C: 0}, has(value, data, data), 0, 512, []byte{0, 0, 2, 0}},
		{api.Ins{Op: api.Stw, A: 1, B: 2, C: 253}, has(value, data, data), api.ErrBound, 0, nil},
		{api.Ins{Op: api.Stb, A: 1, B: 2}, has(value, permits(data, 125), data), api.ErrPerm, 0, nil},
		{api.Ins{Op: api.Stw, A: 1, B: 2}, has(value, permits(data, 1), data), api.ErrPerm, 0, nil},
		{api.Ins{Op: api.Stb, A: 1, B: 2}, has(value, sealed(data, 1), data), api.ErrSeal, 0, nil},
		{api.Ins{Op: api.Stw, A: 1, B: 2}, has(value, plain(data), data), api.ErrTag, 0, nil},
		{api.Ins{Op: api.Stb, A: 1, B: 2}, has(value, far, data), api.ErrBound, 0, nil},
		{api.Ins{Op: api.Stw, A: 1, B: 2}, has(value, at(far, 2045), data), api.ErrBound, 0, nil},
	} {
		b := newBench([]api.Ins{w.x}, w.has)
		for place := 512; place < 768; place += 16 {
			b.m.StoreCap(place, data)
		}
		want := b.image()
		kind := api.Trapped
		if w.err == 0 {
			kind = api.Went
			want.caps[0].At = 260
			copy(want.bytes[w.place:], w.bytes)
			last := (w.place + len(w.bytes) - 1) / 16 * 16
			want.tags = slices.DeleteFunc(want.tags, func(at int) bool { return at == w.place/16*16 || at == last })
		}
		if did := b.t.Step(b.m, b.s); did != (api.Did{Kind: kind, Err: w.err}) || !b.image().same(want) {
			t.Error(i, did)
		}
	}
}

func TestP211LoadsOfCaps(t *testing.T) {
	kept := api.Cap{Tag: true, Base: 1280, Top: 1300, At: 7, Perms: 3, Type: 9}
	painted := spans(data, 1024, 1040)
	for i, w := range []row{
		{api.Ins{Op: api.Ldc, A: 1, B: 2, C: 1}, has(data, data, data), 0, 260, kept},
		{api.Ins{Op: api.Ldc, A: 2, B: 2, C: 2}, has(data, data, data), 0, 260, plain(painted)},
		{api.Ins{Op: api.Ldc, A: 1, B: 2, C: 3}, has(data, data, data), 0, 260, plain(kept)},
		{api.Ins{Op: api.Ldc, A: 1, B: 2, C: 0}, has(data, data, data), 0, 260, nothing},
		{api.Ins{Op: api.Ldc, A: 1, B: 2, C: 15}, has(data, data, data), 0, 260, nothing},
		{api.Ins{Op: api.Ldc, A: 1, B: 2, C: 16}, has(data, data, data), api.ErrBound, 0, nothing},
		{api.Ins{Op: api.Ldc, A: 1, B: 2, C: 255}, has(data, data, data), api.ErrBound, 0, nothing},
		{api.Ins{Op: api.Ldc, A: 1, B: 2, C: 0}, has(data, at(data, 520), data), api.ErrAlign, 0, nothing},
		{api.Ins{Op: api.Ldc, A: 1, B: 2}, has(data, permits(data, 119), data), api.ErrPerm, 0, nothing},
		{api.Ins{Op: api.Ldc, A: 1, B: 2}, has(data, permits(data, 126), data), api.ErrPerm, 0, nothing},
		{api.Ins{Op: api.Ldc, A: 1, B: 2}, has(data, plain(data), data), api.ErrTag, 0, nothing},
		{api.Ins{Op: api.Ldc, A: 1, B: 2}, has(data, sealed(data, 4), data), api.ErrSeal, 0, nothing},
		{api.Ins{Op: api.Ldc, A: 1, B: 2}, has(data, far, data), api.ErrBound, 0, nothing},
		{api.Ins{Op: api.Ldc, A: 1, B: 2}, has(data, at(far, 2032), data), 0, 260, nothing},
	} {
		b := newBench([]api.Ins{w.x}, w.has)
		b.p.Paint(1024, 1040, true)
		b.m.StoreCap(528, kept)
		b.m.StoreCap(544, painted)
		b.m.StoreCap(560, plain(kept))
		want := b.image()
		kind := api.Trapped
		if w.err == 0 {
			kind = api.Went
			want.caps[0].At, want.caps[1+w.x.A] = w.next, w.a
		}
		if did := b.t.Step(b.m, b.s); did != (api.Did{Kind: kind, Err: w.err}) || !b.image().same(want) {
			t.Error(i, did, b.t.Regs().Get(w.x.A))
		}
	}
}

func TestP211StoresOfCaps(t *testing.T) {
	kept := api.Cap{Tag: true, Base: 1280, Top: 1300, At: 7, Perms: 3, Type: 9}
	for i, w := range []struct {
		x     api.Ins
		has   map[int]api.Cap
		err   api.Errno
		place int
	}{
		{api.Ins{Op: api.Stc, A: 1, B: 2, C: 1}, has(kept, data, data), 0, 528},
		{api.Ins{Op: api.Stc, A: 1, B: 2, C: 15}, has(kept, data, data), 0, 752},
		{api.Ins{Op: api.Stc, A: 1, B: 2, C: 3}, has(plain(kept), data, data), 0, 560},
		{api.Ins{Op: api.Stc, A: 1, B: 2, C: 16}, has(kept, data, data), api.ErrBound, 0},
		{api.Ins{Op: api.Stc, A: 1, B: 2}, has(kept, at(data, 513), data), api.ErrAlign, 0},
		{api.Ins{Op: api.Stc, A: 1, B: 2}, has(kept, permits(data, 111), data), api.ErrPerm, 0},
		{api.Ins{Op: api.Stc, A: 1, B: 2}, has(kept, permits(data, 125), data), api.ErrPerm, 0},
		{api.Ins{Op: api.Stc, A: 1, B: 2}, has(kept, plain(data), data), api.ErrTag, 0},
		{api.Ins{Op: api.Stc, A: 1, B: 2}, has(kept, sealed(data, 2), data), api.ErrSeal, 0},
		{api.Ins{Op: api.Stc, A: 1, B: 2}, has(kept, far, data), api.ErrBound, 0},
	} {
		b := newBench([]api.Ins{w.x}, w.has)
		b.m.StoreCap(560, data)
		want := b.image()
		kind := api.Trapped
		if w.err == 0 {
			kind = api.Went
			want.caps[0].At = 260
			copies := tagmem.New(1)
			copies.StoreCap(0, w.has[1])
			told, _ := copies.Load(0, 16)
			copy(want.bytes[w.place:], told)
			want.tags = slices.DeleteFunc(want.tags, func(at int) bool { return at == w.place })
			if w.has[1].Tag {
				want.tags = append(want.tags, w.place)
				slices.Sort(want.tags)
			}
		}
		if did := b.t.Step(b.m, b.s); did != (api.Did{Kind: kind, Err: w.err}) || !b.image().same(want) {
			t.Error(i, did)
		}
	}
}

func TestP211WhatIsMadeOfOthers(t *testing.T) {
	ins := func(op int) api.Ins { return api.Ins{Op: op, A: 1, B: 2, C: 3} }
	permit := func(p int) api.Ins { return api.Ins{Op: api.Prm, A: 1, B: 2, C: p} }
	enter := api.Ins{Op: api.Ent, A: 1, B: 2}
	bounded := data
	bounded.Base, bounded.Top, bounded.At = 520, 530, 520
	hold(t, []row{
		{ins(api.Inc), has(nothing, data, cap.Int(8)), 0, 260, at(data, 520)},
		{ins(api.Inc), has(nothing, data, cap.Int(-8)), 0, 260, at(data, 504)},
		{ins(api.Inc), has(nothing, at(data, 1<<32-4), cap.Int(8)), 0, 260, at(data, 4)},
		{ins(api.Inc), has(nothing, cap.Int(4), data), 0, 260, cap.Int(516)},
		{ins(api.Inc), has(data, sealed(data, 9), cap.Int(0)), api.ErrSeal, 0, nothing},
		{ins(api.Inc), has(data, plain(sealed(data, 9)), cap.Int(1)), 0, 260, at(plain(sealed(data, 9)), 513)},
		{ins(api.Bnd), has(nothing, at(data, 520), cap.Int(10)), 0, 260, bounded},
		{ins(api.Bnd), has(data, at(data, 520), cap.Int(249)), api.ErrBound, 0, nothing},
		{ins(api.Bnd), has(data, at(data, 520), cap.Int(-1)), api.ErrBound, 0, nothing},
		{ins(api.Bnd), has(data, plain(data), cap.Int(1)), api.ErrTag, 0, nothing},
		{ins(api.Bnd), has(data, sealed(data, 5), cap.Int(1)), api.ErrSeal, 0, nothing},
		{permit(11), has(nothing, data, nothing), 0, 260, permits(data, 11)},
		{permit(127), has(nothing, data, nothing), 0, 260, data},
		{permit(0), has(nothing, data, nothing), 0, 260, permits(data, 0)},
		{permit(128), has(data, data, nothing), api.ErrArg, 0, nothing},
		{permit(255), has(data, data, nothing), api.ErrArg, 0, nothing},
		{permit(1), has(data, plain(data), nothing), api.ErrTag, 0, nothing},
		{ins(api.Sel), has(nothing, data, authority), 0, 260, sealed(data, 20)},
		{ins(api.Sel), has(nothing, data, at(authority, 21)), 0, 260, sealed(data, 21)},
		{ins(api.Sel), has(nothing, data, at(authority, 22)), api.ErrBound, 0, nothing},
		{ins(api.Sel), has(nothing, data, permits(authority, 64)), api.ErrPerm, 0, nothing},
		{ins(api.Sel), has(nothing, sealed(data, 20), authority), api.ErrSeal, 0, nothing},
		{ins(api.Sel), has(nothing, data, spans(authority, 0, 9)), api.ErrType, 0, nothing},
		{ins(api.Uns), has(nothing, sealed(data, 20), authority), 0, 260, data},
		{ins(api.Uns), has(nothing, sealed(data, 21), authority), api.ErrType, 0, nothing},
		{ins(api.Uns), has(nothing, sealed(data, 20), permits(authority, 32)), api.ErrPerm, 0, nothing},
		{ins(api.Uns), has(nothing, data, authority), api.ErrSeal, 0, nothing},
		{enter, has(nothing, text, nothing), 0, 260, sealed(text, 1)},
		{enter, has(nothing, data, nothing), api.ErrPerm, 0, nothing},
		{enter, has(nothing, plain(text), nothing), api.ErrTag, 0, nothing},
	})
}

func TestP211Call(t *testing.T) {
	target := at(text, 300)
	for i, w := range []struct {
		a, b api.Cap
		err  api.Errno
		r7   api.Cap
	}{
		{sealed(target, 20), sealed(data, 20), 0, data},
		{sealed(target, 255), sealed(data, 255), 0, data},
		{sealed(target, 1), sealed(data, 20), 0, nothing},
		{sealed(target, 1), nothing, 0, nothing},
		{sealed(target, 1), sealed(text, 1), 0, nothing},
		{nothing, sealed(data, 20), api.ErrTag, nothing},
		{plain(sealed(target, 20)), sealed(data, 20), api.ErrTag, nothing},
		{target, data, api.ErrSeal, nothing},
		{plain(target), data, api.ErrTag, nothing},
		{data, data, api.ErrSeal, nothing},
		{plain(data), data, api.ErrTag, nothing},
		{sealed(target, 20), plain(data), api.ErrTag, nothing},
		{sealed(target, 20), nothing, api.ErrTag, nothing},
		{sealed(target, 20), plain(target), api.ErrTag, nothing},
		{sealed(data, 20), sealed(data, 20), api.ErrPerm, nothing},
		{sealed(data, 1), nothing, api.ErrPerm, nothing},
		{sealed(target, 20), plain(sealed(data, 20)), api.ErrTag, nothing},
		{sealed(target, 20), sealed(data, 21), api.ErrType, nothing},
		{sealed(target, 20), data, api.ErrType, nothing},
		{sealed(target, 20), sealed(target, 20), api.ErrPerm, nothing},
		{sealed(target, 20), sealed(target, 21), api.ErrType, nothing},
		{sealed(data, 20), plain(data), api.ErrPerm, nothing},
	} {
		b := newBench([]api.Ins{{Op: api.Call, A: 2, B: 5}}, map[int]api.Cap{0: cap.Int(9), 2: w.a, 3: data, 4: cap.Int(40), 5: w.b, 6: text, 7: cap.Int(70)})
		before := b.image()
		did := b.t.Step(b.m, b.s)
		if w.err != 0 {
			if did != (api.Did{Kind: api.Trapped, Err: w.err}) || !b.image().same(before) {
				t.Error(i, did)
			}
			continue
		}
		want := before
		want.caps = []api.Cap{
			target, cap.Int(9), nothing, w.a, data, nothing, nothing, nothing, w.r7,
			at(text, 260), cap.Int(40), w.b, text, cap.Int(70),
		}
		want.many = 1
		if did != (api.Did{Kind: api.Went}) || !b.image().same(want) {
			t.Error(i, did, b.t.Caps())
		}
	}
}

func TestP211CallsOfTheSameRegister(t *testing.T) {
	entry := sealed(at(text, 300), 1)
	b := newBench([]api.Ins{{Op: api.Call, A: 7, B: 7}}, map[int]api.Cap{7: entry})
	if did := b.t.Step(b.m, b.s); did.Kind != api.Went || b.t.At() != at(text, 300) || b.t.Regs().Get(7) != nothing {
		t.Error(did, b.t.Caps())
	}
	if f, is := b.t.Frames().Pop(); !is || f.Regs[3] != entry || f.At != at(text, 260) {
		t.Error(f)
	}
}

func TestP211CallAndRet(t *testing.T) {
	b := newBench([]api.Ins{{Op: api.Call, A: 0, B: 0}}, map[int]api.Cap{0: sealed(text, 1), 5: data})
	for n := range 16 {
		if did := b.t.Step(b.m, b.s); did.Kind != api.Went || b.t.Frames().Many() != n+1 {
			t.Fatal(n, did)
		}
	}
	before := b.image()
	if did := b.t.Step(b.m, b.s); did != (api.Did{Kind: api.Trapped, Err: api.ErrFull}) || !b.image().same(before) {
		t.Error(did)
	}
	b.m.Store(256, code.Put(api.Ins{Op: api.Ret}))
	b.m.Store(260, code.Put(api.Ins{Op: api.Ret}))
	b.t.Regs().Set(4, cap.Int(4))
	b.t.Regs().Set(3, cap.Int(3))
	for n := 15; n >= 0; n-- {
		if did := b.t.Step(b.m, b.s); did != (api.Did{Kind: api.Went}) || b.t.Frames().Many() != n || b.t.At() != at(text, 260) {
			t.Fatal(n, did)
		}
		if b.t.Regs().Get(4) != nothing || b.t.Regs().Get(3) != cap.Int(3) || b.t.Regs().Get(0) != sealed(text, 1) {
			t.Fatal(n, b.t.Caps())
		}
	}
	if b.t.Regs().Get(5) != data {
		t.Error(b.t.Caps())
	}
	before = b.image()
	if did := b.t.Step(b.m, b.s); did != (api.Did{Kind: api.Trapped, Err: api.ErrNone}) || !b.image().same(before) {
		t.Error(did)
	}
}

func TestP211RetToWhatIsNone(t *testing.T) {
	b := newBench([]api.Ins{{Op: api.Ret}}, has(data, data, data))
	regs := [4]api.Cap{cap.Int(4), data, sealed(data, 5), text}
	b.t.Frames().Push(api.Frame{At: plain(text), Regs: regs})
	if did := b.t.Step(b.m, b.s); did != (api.Did{Kind: api.Went}) || b.t.At() != plain(text) {
		t.Error(did, b.t.At())
	}
	if got := b.t.Regs().All(); !slices.Equal(got[4:], regs[:]) || got[3] != data {
		t.Error(got)
	}
	if did := b.t.Step(b.m, b.s); did != (api.Did{Kind: api.Trapped, Err: api.ErrTag}) {
		t.Error(did)
	}
}

// pool are capabilities that random benches have.
func pool(r *rand.Rand) api.Cap {
	l := []api.Cap{
		nothing, cap.Int(r.Intn(40)), cap.Int(-r.Intn(9)), data, at(data, 512+r.Intn(260)), at(data, 512+16*r.Intn(16)), text, at(text, 256+4*r.Intn(64)),
		authority, at(authority, 20+r.Intn(4)), spans(authority, 0, 300), far, at(far, 1984+r.Intn(80)), plain(data), plain(text),
		sealed(data, 20), sealed(text, 20), sealed(data, 21), sealed(at(text, 256+4*r.Intn(60)), 1+r.Intn(2)*19), permits(data, r.Intn(128)), permits(text, r.Intn(128)),
		spans(data, 1024, 1024+r.Intn(99)), spans(data, 512, 512+r.Intn(99)),
	}
	return l[r.Intn(len(l))]
}

// instruction is any right one.
func instruction(r *rand.Rand) api.Ins {
	for {
		x := api.Ins{Op: r.Intn(api.MaxOp + 1)}
		parts := []*int{&x.A, &x.B, &x.C}
		for i, kind := range code.Kinds(x.Op) {
			switch kind {
			case 'r':
				*parts[i] = r.Intn(8)
			case 'i':
				*parts[i] = []int{r.Intn(4), r.Intn(20), r.Intn(256)}[r.Intn(3)]
			case 'w':
				*parts[i] = []int{r.Intn(8) - 2, r.Intn(70) - 30, r.Intn(65536) - 32768}[r.Intn(3)]
			}
		}
		if code.Right(x) {
			return x
		}
	}
}

// anyBench is one of random instructions, and registers, and memory.
func anyBench(r *rand.Rand) *bench {
	var l []api.Ins
	for range 64 {
		l = append(l, instruction(r))
	}
	held := map[int]api.Cap{}
	for i := range 8 {
		held[i] = pool(r)
	}
	b := newBench(l, held)
	for range 10 {
		b.m.StoreCap(512+16*r.Intn(16), pool(r))
	}
	b.p.Paint(1024, 1040, r.Intn(2) == 0)
	for range r.Intn(17) {
		b.t.Frames().Push(api.Frame{At: pool(r), Regs: [4]api.Cap{pool(r), pool(r), pool(r), pool(r)}})
	}
	return b
}

// all are all capabilities that a bench's thread, and memory, have.
func (b *bench) all() []api.Cap {
	l := b.t.Caps()
	for _, at := range b.m.Tags() {
		c, _ := b.m.LoadCap(at)
		l = append(l, c)
	}
	return l
}

// next is the instruction that comes.
func (b *bench) next() (api.Ins, bool) {
	where, err := access.Fetch(b.t.At())
	if err != api.OK {
		return api.Ins{}, false
	}
	told, is := b.m.Load(where, 4)
	if !is {
		return api.Ins{}, false
	}
	x, err := code.Get(told)
	return x, err == api.OK
}

func TestP212Closed(t *testing.T) {
	r := rand.New(rand.NewSource(41))
	calls := 0
	for i := range 1500 {
		b := anyBench(r)
		if i%4 == 0 {
			b.m.Store(256, code.Put(api.Ins{Op: api.Call, A: 1, B: 2}))
			b.t.Regs().Set(1, sealed(at(text, 260+4*r.Intn(60)), 1+i%3*10))
			b.t.Regs().Set(2, sealed(data, 1+i%3*10))
		}
		for range 12 {
			x, is := b.next()
			a, d := b.t.Regs().Get(x.A), b.t.Regs().Get(x.B)
			had := clos.New(b.all())
			did := b.t.Step(b.m, b.s)
			if did.Kind == api.Trapped || did.Kind == api.Stopped {
				break
			}
			now := b.all()
			if is && x.Op == api.Call {
				calls++
				if now[0] != sealed(a, 0) || now[8] != sealed(d, 0) && now[8] != nothing {
					t.Fatal(x, now[:9])
				}
				now[0], now[8] = nothing, nothing
			}
			for _, c := range now {
				if !had.Has(c) {
					t.Fatal(x, c)
				}
			}
		}
	}
	if calls < 100 {
		t.Error("too few calls", calls)
	}
}

func TestP213ATrapChangesNothing(t *testing.T) {
	r := rand.New(rand.NewSource(42))
	traps := map[int]int{}
	for range 4000 {
		b := anyBench(r)
		for range 12 {
			x, _ := b.next()
			before := b.image()
			did := b.t.Step(b.m, b.s)
			if did.Kind != api.Trapped {
				continue
			}
			traps[x.Op]++
			if did.N != 0 || did.Err == 0 || !b.image().same(before) {
				t.Fatal(x, did)
			}
			break
		}
	}
	if len(traps) < 16 {
		t.Error("too few instructions trapped", traps)
	}
}

func TestP214Within(t *testing.T) {
	r := rand.New(rand.NewSource(43))
	stores := 0
	for range 4000 {
		b := anyBench(r)
		for range 12 {
			registers := b.t.Regs().All()
			before := b.image()
			did := b.t.Step(b.m, b.s)
			after := b.image()
			for at := range before.bytes {
				granule := at / 16 * 16
				if before.bytes[at] == after.bytes[at] && slices.Contains(before.tags, granule) == slices.Contains(after.tags, granule) {
					continue
				}
				stores++
				if !slices.ContainsFunc(registers, func(c api.Cap) bool {
					// A granule's tag goes when any of its bytes is stored.
					return c.Tag && c.Type == 0 && c.Perms&api.Write != 0 && c.Base < granule+16 && c.Top > granule && (before.bytes[at] == after.bytes[at] || cap.In(c, at, 1))
				}) {
					t.Fatal(at, registers)
				}
			}
			if did.Kind == api.Trapped || did.Kind == api.Stopped {
				break
			}
		}
	}
	if stores < 100 {
		t.Error("too few stores", stores)
	}
}

// made is what an instruction makes of three capabilities, by the layers below.
func made(x api.Ins, b api.Cap, c api.Cap) (api.Cap, api.Errno, bool) {
	switch x.Op {
	case api.Add, api.Sub, api.Mul, api.Div, api.Lt, api.Eq:
		n, err := alu.Do(x.Op, b.At, c.At)
		return cap.Int(n), err, true
	case api.Inc:
		d, err := derive.Move(b, b.At+c.At)
		return d, err, true
	case api.Bnd:
		d, err := derive.Bounds(b, c.At)
		return d, err, true
	case api.Prm:
		d, err := derive.Perms(b, x.C)
		return d, err, true
	case api.Sel:
		d, err := derive.Seal(b, c)
		return d, err, true
	case api.Uns:
		d, err := derive.Unseal(b, c)
		return d, err, true
	case api.Ent:
		d, err := derive.Enter(b)
		return d, err, true
	}
	return nothing, 0, false
}

func TestP211WhatTheLayersBelowMake(t *testing.T) {
	r := rand.New(rand.NewSource(44))
	for range 40000 {
		x := instruction(r)
		b := newBench([]api.Ins{x}, nil)
		for i := range 8 {
			b.t.Regs().Set(i, pool(r))
		}
		want, err, is := made(x, b.t.Regs().Get(x.B), b.t.Regs().Get(x.C))
		if !is {
			continue
		}
		caps := b.t.Caps()
		did := b.t.Step(b.m, b.s)
		if err != 0 {
			if did != (api.Did{Kind: api.Trapped, Err: err}) {
				t.Fatal(x, did, err)
			}
			continue
		}
		caps[0].At, caps[1+x.A] = 260, want
		if did != (api.Did{Kind: api.Went}) || !slices.Equal(b.t.Caps(), caps) {
			t.Fatal(x, did, b.t.Caps())
		}
	}
}

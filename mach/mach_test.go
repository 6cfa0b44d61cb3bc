package mach_test

import (
	"math"
	"slices"
	"strings"
	"testing"

	"seizin/api"
	"seizin/asm"
	"seizin/cap"
	"seizin/code"
	"seizin/image"
	"seizin/mach"
)

// program is the bytes of instructions that are written one behind the other, with "; " between.
func program(t *testing.T, text string) []byte {
	t.Helper()
	l, n, is := asm.Read(strings.ReplaceAll(text, "; ", "\n") + "\n")
	if !is {
		t.Fatal(text, n)
	}
	var b []byte
	for _, x := range l {
		b = append(b, code.Put(x)...)
	}
	return b
}

// imageOf is one of compartments with such programs, with a page of data each, and heaps of a page, that are full with four granules.
func imageOf(t *testing.T, programs ...string) api.Image {
	t.Helper()
	x := api.Image{Heap: 1, Full: 4}
	for _, text := range programs {
		x.Comps = append(x.Comps, api.Comp{Code: program(t, text), Data: 1})
	}
	return x
}

// machine is that of an image.
func machine(t *testing.T, x api.Image) *mach.Machine {
	t.Helper()
	m := mach.New(x)
	if m == nil {
		t.Fatal("no machine")
	}
	return m
}

// runs holds that a thread does so many steps, of as many as are asked for, and that this is told.
func runs(t *testing.T, m *mach.Machine, thread int, steps int, done int, told ...api.Told) {
	t.Helper()
	n, got := m.Run(thread, steps)
	if n != done || !slices.Equal(got, told) {
		t.Fatal(n, got, "not", done, told)
	}
}

// reg is what a thread's register has.
func reg(m *mach.Machine, thread int, r int) api.Cap { return m.Caps(thread)[1+r] }

// out is what is told of a number.
func out(thread int, n int) api.Told { return api.Told{Thread: thread, N: n} }

// ended, and fault, are what is told of a thread's end.
func ended(thread int) api.Told { return api.Told{Thread: thread, State: api.Ended} }

func fault(thread int, err api.Errno) api.Told {
	return api.Told{Thread: thread, State: api.Fault, Err: err}
}

// nowhere are no threads' places.
var nowhere = []int{math.MinInt, -1, 2, 3, 4, math.MaxInt}

func TestP221New(t *testing.T) {
	for i, change := range []func(x *api.Image){
		func(x *api.Image) { x.Heap = 0 }, func(x *api.Image) { x.Full = 4097 }, func(x *api.Image) { x.Comps = nil },
		func(x *api.Image) { x.Comps[0].Code = nil }, func(x *api.Image) { x.Links = []api.Link{{From: 0, To: 0}} },
	} {
		x := imageOf(t, "halt", "halt")
		change(&x)
		if mach.New(x) != nil {
			t.Error(i)
		}
	}
	if mach.New(api.Image{}) != nil {
		t.Error("nothing")
	}
}

func TestP221AtFirst(t *testing.T) {
	x := imageOf(t, "halt; halt; halt", "halt; halt; halt; halt", "halt")
	x.Heap = 3
	x.Links = []api.Link{{From: 0, To: 1, At: 2}, {From: 2, To: 0, At: 1}, {From: 0, To: 2}}
	x.Shares = []api.Share{{Read: 2, Write: 0}, {Read: 3, Write: 1}}
	m := machine(t, x)
	var held []api.Cap
	for i := range 3 {
		grants := image.Grants(x, i)
		want := make([]api.Cap, 9)
		want[0], want[8], want[7] = grants[0], grants[1], grants[2]
		if i < 2 {
			want[6] = grants[3]
		}
		if got := m.Caps(i); !slices.Equal(got, want) {
			t.Error(i, got)
		}
		for _, c := range want {
			if c.Tag {
				held = append(held, c)
			}
		}
		if m.State(i) != api.Ready || len(m.Blocks(i)) != 0 || m.Stat(i) != (api.Stat{Left: 768}) {
			t.Error(i, m.Stat(i))
		}
	}
	for _, comp := range []int{0, 2} {
		for _, pair := range image.Pairs(x, comp) {
			held = append(held, pair[0], pair[1])
		}
	}
	if got := m.Held(); !slices.Equal(got, held) {
		t.Error(got, held)
	}
}

func TestP221WhereThePairsAre(t *testing.T) {
	x := imageOf(t, "ldc r0 r7 0; ldc r1 r7 1; ldc r2 r7 2; ldc r3 r7 3; ldc r4 r7 4; halt", "halt")
	x.Links = []api.Link{{From: 0, To: 1}, {From: 0, To: 1}}
	m := machine(t, x)
	runs(t, m, 0, 5, 5)
	pairs := image.Pairs(x, 0)
	if got := m.Caps(0)[1:6]; !slices.Equal(got, []api.Cap{pairs[0][0], pairs[0][1], pairs[1][0], pairs[1][1], cap.Null()}) {
		t.Error(got)
	}
}

func TestP221AllElseIsNothing(t *testing.T) {
	x := imageOf(t, "movi r1 256; movi r2 1; ldb r0 r7 0; sys 0; inc r7 r7 r2; sub r1 r1 r2; jz r1 2; jmp -5; halt", "halt")
	m := machine(t, x)
	n, told := m.Run(0, 10000)
	if len(told) != 257 || told[256] != ended(0) || n != 2+256*6 {
		t.Fatal(n, len(told))
	}
	for _, one := range told[:256] {
		if one != out(0, 0) {
			t.Error(one)
		}
	}
}

func TestP221KeepsNothingOfTheImage(t *testing.T) {
	x := imageOf(t, "movi r0 7; sys 0; halt")
	m := machine(t, x)
	clear(x.Comps[0].Code)
	x.Comps[0] = api.Comp{}
	runs(t, m, 0, 9, 3, out(0, 7), ended(0))
}

func TestP221RunOfWhatMayNotBe(t *testing.T) {
	m := machine(t, imageOf(t, "jmp 0", "halt"))
	for _, thread := range nowhere {
		runs(t, m, thread, 1, 0)
		if m.State(thread) != api.Ready || len(m.Caps(thread)) != 0 || len(m.Blocks(thread)) != 0 || m.Stat(thread) != (api.Stat{}) || m.Input(thread, 5) {
			t.Error(thread)
		}
	}
	for _, steps := range []int{math.MinInt, -1, 0, 10001, math.MaxInt} {
		runs(t, m, 0, steps, 0)
	}
	runs(t, m, 0, 10000, 10000)
	runs(t, m, 0, 1, 1)
}

func TestP221Ends(t *testing.T) {
	m := machine(t, imageOf(t, "mov r0 r0; halt", "mov r0 r0; ldb r0 r0 0; halt"))
	runs(t, m, 0, 1, 1)
	if m.State(0) != api.Ready {
		t.Error(m.State(0))
	}
	runs(t, m, 0, 9, 1, ended(0))
	runs(t, m, 0, 9, 0)
	runs(t, m, 1, 2, 2, fault(1, api.ErrTag))
	runs(t, m, 1, 9, 0)
	if m.State(0) != api.Ended || m.State(1) != api.Fault {
		t.Error(m.State(0), m.State(1))
	}
	if got := m.Caps(1)[0]; got.At != got.Base+4 {
		t.Error(got)
	}
	m = machine(t, imageOf(t, "mov r0 r0"))
	runs(t, m, 0, 9, 2, fault(0, api.ErrBound))
}

func TestP221OutAndYield(t *testing.T) {
	m := machine(t, imageOf(t, "movi r0 -1; sys 0; sys 5; mov r0 r7; sys 0; sys 5; sys 5; halt", "sys 5; movi r0 3; sys 0; halt"))
	runs(t, m, 0, 100, 3, out(0, 1<<32-1))
	runs(t, m, 1, 100, 1)
	runs(t, m, 0, 1, 1)
	runs(t, m, 0, 100, 2, out(0, reg(m, 0, 7).Base))
	runs(t, m, 0, 100, 1)
	runs(t, m, 1, 100, 3, out(1, 3), ended(1))
	runs(t, m, 0, 100, 1, ended(0))
}

func TestP221AnythingElseIsAFault(t *testing.T) {
	for n := 7; n < 256; n++ {
		x := imageOf(t, "mov r0 r0; halt; movi r0 5; sys 0; halt", "halt")
		copy(x.Comps[0].Code[4:], code.Put(api.Ins{Op: api.Sys, A: n}))
		m := machine(t, x)
		before := m.Held()
		runs(t, m, 0, 100, 2, fault(0, api.ErrOp))
		if m.State(0) != api.Fault || m.State(1) != api.Ready || reg(m, 0, 1) != cap.Null() || len(m.Held()) != len(before) {
			t.Error(n)
		}
		runs(t, m, 0, 100, 0)
	}
}

func TestP221In(t *testing.T) {
	m := machine(t, imageOf(t, "sys 1; sys 0; jmp -2", "sys 1; sys 0; jmp -2"))
	for _, n := range []int{7, -1, math.MinInt, 1<<32 + 9} {
		if !m.Input(0, n) {
			t.Error(n)
		}
	}
	runs(t, m, 1, 3, 3, out(1, 0))
	runs(t, m, 0, 6, 6, out(0, 7), out(0, 1<<32-1))
	m.Input(0, 11)
	runs(t, m, 0, 12, 12, out(0, 0), out(0, 9), out(0, 11), out(0, 0))
	for i := range 1000 {
		if !m.Input(1, i) {
			t.Fatal(i)
		}
	}
	if m.Input(1, 5) || !m.Input(0, 5) {
		t.Error("a thousand")
	}
	runs(t, m, 1, 2, 2, out(1, 0))
	if !m.Input(1, 77) || m.Input(1, 78) {
		t.Error("one less")
	}
	for i := 1; i < 1000; i++ {
		runs(t, m, 1, 3, 3, out(1, i))
	}
	runs(t, m, 1, 3, 3, out(1, 77))
	runs(t, m, 1, 3, 3, out(1, 0))
	runs(t, m, 0, 3, 3, out(0, 5))
}

func TestP221InputOfOneThatEnded(t *testing.T) {
	m := machine(t, imageOf(t, "halt"))
	runs(t, m, 0, 1, 1, ended(0))
	if !m.Input(0, 1) {
		t.Error("input")
	}
}

// heapAt is where a compartment's heap begins.
func heapAt(x api.Image, comp int) int { return image.Where(x).Heap[comp][0] }

// given is what is given out of a heap.
func given(at int, n int) api.Cap {
	return api.Cap{Tag: true, Base: at, Top: at + n, At: at, Perms: 27}
}

func TestP221Alloc(t *testing.T) {
	x := imageOf(t, "movi r0 20; sys 2; mov r2 r0; movi r0 0; sys 2; mov r3 r0; movi r0 200; movi r1 9; sys 2; sys 5; mov r0 r7; sys 2; mov r2 r1; movi r0 -1; sys 2", "halt")
	m := machine(t, x)
	at := heapAt(x, 0)
	runs(t, m, 0, 2, 2)
	if reg(m, 0, 0) != given(at, 20) || reg(m, 0, 1) != cap.Int(0) {
		t.Error(m.Caps(0))
	}
	runs(t, m, 0, 8, 8)
	if reg(m, 0, 2) != given(at, 20) || reg(m, 0, 3) != given(at+32, 1) || reg(m, 0, 0) != cap.Null() || reg(m, 0, 1) != cap.Int(int(api.ErrFull)) {
		t.Error(m.Caps(0))
	}
	if got := m.Blocks(0); !slices.Equal(got, [][2]int{{at, at + 32}, {at + 32, at + 48}}) {
		t.Error(got)
	}
	if m.Stat(0) != (api.Stat{Live: 2, Bytes: 48, Left: 208}) || m.Stat(1) != (api.Stat{Left: 256}) {
		t.Error(m.Stat(0), m.Stat(1))
	}
	runs(t, m, 0, 5, 5)
	// The number of what is tagged is where it stands, which is too much too.
	if reg(m, 0, 2) != cap.Int(int(api.ErrFull)) || reg(m, 0, 0) != cap.Null() || reg(m, 0, 1) != cap.Int(int(api.ErrArg)) {
		t.Error(m.Caps(0))
	}
}

func TestP221WhatIsGivenOutIsOfNothing(t *testing.T) {
	// A capability is stored into the last granule of what takes 192 bytes, which is freed, and given out again to one who asked for 129.
	x := imageOf(t, "movi r0 192; sys 2; stc r7 r0 11; movi r2 -2; stw r2 r0 124; sys 3; sys 5; movi r0 129; sys 2; ldw r2 r0 124; ldb r3 r0 128; halt")
	m := machine(t, x)
	runs(t, m, 0, 100, 7)
	own := reg(m, 0, 7)
	if many := len(m.Held()); many != 4 || m.Held()[3] != own {
		t.Error(m.Held())
	}
	if m.Sweep(10) != 1 || m.Stat(0).Left != 256 {
		t.Error(m.Stat(0))
	}
	if len(m.Held()) != 4 {
		t.Error("nothing was to be swept", m.Held())
	}
	runs(t, m, 0, 2, 2)
	if reg(m, 0, 0) != given(heapAt(x, 0), 129) || slices.Contains(m.Held()[4:], own) || len(m.Held()) != 4 {
		t.Error(m.Held())
	}
	runs(t, m, 0, 3, 3, ended(0))
	if reg(m, 0, 2) != cap.Int(0) || reg(m, 0, 3) != cap.Int(0) {
		t.Error(m.Caps(0))
	}
}

func TestP221Size(t *testing.T) {
	x := imageOf(t, "movi r0 129; sys 2; mov r2 r0; sys 4; sys 0; mov r0 r1; sys 0; mov r0 r7; sys 4; mov r3 r1; sys 0; movi r0 1; sys 4; halt")
	m := machine(t, x)
	runs(t, m, 0, 13, 13, out(0, 192), out(0, 0), out(0, 0))
	if reg(m, 0, 3) != cap.Int(int(api.ErrNone)) || reg(m, 0, 0) != cap.Int(0) || reg(m, 0, 1) != cap.Int(int(api.ErrTag)) {
		t.Error(m.Caps(0))
	}
	runs(t, m, 0, 1, 1, ended(0))
}

func TestP221Free(t *testing.T) {
	// Two blocks of 48 bytes: the second one has more kept apart than the heap is full with.
	text := "movi r0 40; sys 2; mov r2 r0; movi r0 48; sys 2; mov r3 r0; " +
		"mov r0 r2; sys 3; sys 5; mov r4 r1; sys 3; sys 5; mov r0 r3; sys 3; sys 5; mov r0 r2; sys 3; halt"
	x := imageOf(t, text)
	m := machine(t, x)
	at := heapAt(x, 0)
	runs(t, m, 0, 100, 9)
	if reg(m, 0, 0) != given(at, 40) || reg(m, 0, 1) != cap.Int(0) || m.Stat(0) != (api.Stat{Live: 1, Bytes: 48, Apart: 48, Left: 160}) {
		t.Error(m.Caps(0), m.Stat(0))
	}
	runs(t, m, 0, 100, 3)
	if reg(m, 0, 4) != cap.Int(0) || reg(m, 0, 1) != cap.Int(int(api.ErrNone)) || m.Stat(0).Now != 0 {
		t.Error(m.Caps(0), m.Stat(0))
	}
	if got := m.Blocks(0); !slices.Equal(got, [][2]int{{at, at + 48}, {at + 48, at + 96}}) {
		t.Error(got)
	}
	runs(t, m, 0, 100, 3)
	plain, other := given(at, 40), given(at+48, 48)
	plain.Tag, other.Tag = false, false
	if m.Stat(0) != (api.Stat{Apart: 96, Left: 160, Now: 1}) || reg(m, 0, 2) != plain || reg(m, 0, 3) != other || reg(m, 0, 0) != other || reg(m, 0, 1) != cap.Int(0) {
		t.Error(m.Caps(0), m.Stat(0))
	}
	runs(t, m, 0, 100, 3, ended(0))
	if reg(m, 0, 1) != cap.Int(int(api.ErrTag)) {
		t.Error(m.Caps(0))
	}
}

func TestP221AnEpochTakesFromAllThreads(t *testing.T) {
	// The first one is entered by the second one, and gives out what it has, so that the second one's registers, frames, and memory have it too.
	x := imageOf(t,
		"jmp 7; movi r0 64; sys 2; stc r0 r7 8; mov r5 r0; mov r6 r0; ret; sys 5; ldc r0 r7 8; sys 3; sys 5; ldc r2 r7 8; halt",
		"ldc r2 r7 0; ldc r3 r7 1; call r2 r3; stc r0 r7 8; mov r4 r0; ldc r2 r7 2; ldc r3 r7 3; call r2 r3; halt",
		"mov r0 r0; sys 5; ret")
	x.Links = []api.Link{{From: 1, To: 0, At: 1}, {From: 1, To: 2, At: 1}}
	m := machine(t, x)
	block := given(heapAt(x, 0), 64)
	runs(t, m, 0, 9, 2)
	runs(t, m, 1, 100, 15)
	if m.Stat(0).Live != 1 || m.Stat(1).Live != 0 {
		t.Fatal(m.Stat(0), m.Stat(1))
	}
	many := 0
	for _, c := range m.Held() {
		if c == block {
			many++
		}
	}
	// The second one's register 0, its frame's 4, and both memories.
	if many != 4 {
		t.Fatal(many, m.Held())
	}
	runs(t, m, 0, 100, 3)
	if now := m.Stat(0).Now; now != 1 || m.Stat(1).Now != 0 {
		t.Error(now)
	}
	for thread := range 3 {
		if slices.Contains(m.Caps(thread), block) {
			t.Error(thread, "has it still")
		}
	}
	plain := block
	plain.Tag = false
	if caps := m.Caps(1); len(caps) != 14 || caps[1] != plain || caps[10] != plain {
		t.Error(caps)
	}
	many = 0
	for _, c := range m.Held() {
		if c == block {
			many++
		}
	}
	if many != 2 {
		t.Error("memory is not swept yet", many)
	}
	// What is loaded meanwhile is none.
	runs(t, m, 0, 100, 2, ended(0))
	if reg(m, 0, 2) != plain {
		t.Error(reg(m, 0, 2))
	}
	if m.Stat(0).Pages != 2 || m.Sweep(1) != 1 || m.Stat(0).Pages != 1 || m.Stat(0).Now != 1 || m.Sweep(1) != 1 {
		t.Error(m.Stat(0))
	}
	if m.Stat(0) != (api.Stat{Left: 256, Now: 2}) || slices.Contains(m.Held(), block) {
		t.Error(m.Stat(0), m.Held())
	}
}

func TestP221Sweep(t *testing.T) {
	text := "movi r0 64; sys 2; stc r0 r7 0; sys 3; sys 5; jmp -5"
	x := imageOf(t, text, text, "halt")
	m := machine(t, x)
	for _, pages := range []int{math.MinInt, -1, 0, 1, 10000, 10001, math.MaxInt} {
		if m.Sweep(pages) != 0 {
			t.Error(pages)
		}
	}
	runs(t, m, 0, 100, 5)
	runs(t, m, 1, 100, 5)
	if m.Stat(0).Now != 1 || m.Stat(0).Pages != 1 || m.Stat(1).Now != 1 || m.Stat(1).Pages != 2 {
		t.Fatal(m.Stat(0), m.Stat(1))
	}
	for _, pages := range []int{math.MinInt, -1, 0, 10001, math.MaxInt} {
		if m.Sweep(pages) != 0 || m.Stat(0).Pages != 1 {
			t.Error(pages)
		}
	}
	if m.Sweep(1) != 2 || m.Stat(0) != (api.Stat{Left: 256, Now: 2}) || m.Stat(1) != (api.Stat{Apart: 64, Left: 192, Now: 1, Pages: 1}) {
		t.Error(m.Stat(0), m.Stat(1))
	}
	if m.Sweep(10000) != 1 || m.Stat(1) != (api.Stat{Left: 256, Now: 2}) || m.Sweep(1) != 0 {
		t.Error(m.Stat(1))
	}
}

func TestP221SweepOfNoDirtyPage(t *testing.T) {
	m := machine(t, imageOf(t, "movi r0 64; sys 2; sys 3; halt"))
	runs(t, m, 0, 100, 4, ended(0))
	if m.Stat(0) != (api.Stat{Apart: 64, Left: 192, Now: 1}) {
		t.Error(m.Stat(0))
	}
	if m.Sweep(0) != 0 || m.Stat(0).Now != 1 || m.Sweep(1) != 0 || m.Stat(0) != (api.Stat{Left: 256, Now: 2}) {
		t.Error(m.Stat(0))
	}
}

func TestP221AnEpochBeginsBehindAnother(t *testing.T) {
	// While an epoch runs as much is freed as the heap is full with: one more epoch begins at its end.
	m := machine(t, imageOf(t, "movi r0 64; sys 2; stc r0 r7 0; sys 3; sys 5; movi r0 128; sys 2; stc r0 r7 1; mov r2 r0; sys 3; sys 5; halt"))
	runs(t, m, 0, 100, 5)
	runs(t, m, 0, 100, 6)
	if m.Stat(0) != (api.Stat{Apart: 192, Left: 64, Now: 1, Pages: 1}) || !reg(m, 0, 2).Tag {
		t.Error(m.Stat(0))
	}
	if m.Sweep(5) != 1 || m.Stat(0) != (api.Stat{Apart: 128, Left: 128, Now: 3, Pages: 1}) || reg(m, 0, 2).Tag {
		t.Error(m.Stat(0), reg(m, 0, 2))
	}
	if m.Sweep(5) != 1 || m.Stat(0) != (api.Stat{Left: 256, Now: 4}) {
		t.Error(m.Stat(0))
	}
}

func TestP221SysSweep(t *testing.T) {
	m := machine(t, imageOf(t, "movi r0 16; sys 2; mov r2 r0; sys 3; sys 6; mov r3 r1; sys 6; sys 5; sys 6; halt", "halt"))
	runs(t, m, 0, 100, 8)
	if reg(m, 0, 3) != cap.Int(1) || reg(m, 0, 1) != cap.Int(0) || reg(m, 0, 2).Tag || m.Stat(0) != (api.Stat{Apart: 16, Left: 240, Now: 1}) || m.Stat(1).Now != 0 {
		t.Error(m.Caps(0), m.Stat(0))
	}
	if m.Sweep(1) != 0 || m.Stat(0) != (api.Stat{Left: 256, Now: 2}) {
		t.Error(m.Stat(0))
	}
	runs(t, m, 0, 100, 2, ended(0))
	if reg(m, 0, 1) != cap.Int(1) || m.Stat(0).Now != 3 {
		t.Error(m.Caps(0), m.Stat(0))
	}
}

func TestP221WhoseTurnItIs(t *testing.T) {
	// The second one's words ask for all that may be asked for, when the first one has entered it.
	x := imageOf(t,
		"ldc r2 r7 0; ldc r3 r7 1; call r2 r3; movi r0 16; sys 2; halt",
		"halt; movi r0 64; sys 2; mov r4 r0; sys 4; sys 0; sys 1; sys 0; mov r0 r4; sys 3; sys 5; sys 6; mov r0 r1; sys 0; ret")
	x.Links = []api.Link{{From: 0, To: 1, At: 1}}
	m := machine(t, x)
	m.Input(0, 5)
	m.Input(1, 6)
	runs(t, m, 0, 5, 5)
	if m.Stat(0).Live != 0 || m.Stat(1).Live != 1 || len(m.Blocks(1)) != 1 || reg(m, 0, 0) != given(heapAt(x, 1), 64) {
		t.Error(m.Stat(0), m.Stat(1))
	}
	runs(t, m, 0, 100, 8, out(0, 64), out(0, 5))
	if m.Stat(0).Now != 0 || m.Stat(1).Now != 1 || m.Stat(1).Apart != 64 {
		t.Error(m.Stat(0), m.Stat(1))
	}
	runs(t, m, 0, 100, 7, out(0, 0), ended(0))
	if m.Stat(0).Live != 1 || m.Stat(1).Live != 0 || reg(m, 0, 0) != given(heapAt(x, 0), 16) {
		t.Error(m.Stat(0), m.Stat(1))
	}
}

func TestP221AnswersAreNewMemory(t *testing.T) {
	x := imageOf(t, "movi r0 64; sys 2; halt")
	m := machine(t, x)
	_, told := m.Run(0, 100)
	clear(told)
	held, caps, blocks := m.Held(), m.Caps(0), m.Blocks(0)
	clear(held)
	clear(caps)
	clear(blocks)
	if len(m.Held()) != 4 || m.Held()[0] == cap.Null() || m.Caps(0)[0] == cap.Null() || m.Blocks(0)[0][1] == 0 {
		t.Error("shared")
	}
}

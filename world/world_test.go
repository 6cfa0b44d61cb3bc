package world_test

import (
	"math"
	"slices"
	"strings"
	"testing"

	"seizin/api"
	"seizin/asm"
	"seizin/code"
	"seizin/image"
	"seizin/mach"
	"seizin/world"
)

const maxFuel = 1 << 20

// imageOf is one of compartments with such programs, whose instructions are written with "; " between.
func imageOf(t *testing.T, programs ...string) api.Image {
	t.Helper()
	x := api.Image{Heap: 1, Full: 4}
	for _, text := range programs {
		l, _, is := asm.Read(strings.ReplaceAll(text, "; ", "\n") + "\n")
		if !is {
			t.Fatal(text)
		}
		var b []byte
		for _, one := range l {
			b = append(b, code.Put(one)...)
		}
		x.Comps = append(x.Comps, api.Comp{Code: b, Data: 1})
	}
	return x
}

// worldOf is one of such programs.
func worldOf(t *testing.T, fuel int, programs ...string) *world.World {
	t.Helper()
	w, err := world.New(image.Put(imageOf(t, programs...)), fuel)
	if err != api.OK {
		t.Fatal(err)
	}
	return w
}

// same: are two answers alike?
func same(a api.Out, b api.Out) bool {
	return a.Err == b.Err && a.N == b.N && slices.Equal(a.Told, b.Told)
}

// goes holds what comes of an event, and how much fuel is left.
func goes(t *testing.T, w *world.World, e api.Ev, fuel int, want api.Out) {
	t.Helper()
	trace := w.Trace()
	if got := w.Step(e); !same(got, want) || w.Fuel() != fuel {
		t.Fatal(e, got, w.Fuel(), "not", want, fuel)
	}
	if !slices.Equal(w.Trace(), append(trace, want.Told...)) {
		t.Fatal(e, w.Trace())
	}
}

// fails holds that an event is refused, and that nothing is changed.
func fails(t *testing.T, w *world.World, e api.Ev, err api.Errno) {
	t.Helper()
	held := w.Held()
	goes(t, w, e, w.Fuel(), api.Out{Err: err})
	if !slices.Equal(w.Held(), held) {
		t.Fatal(e, w.Held())
	}
}

func TestP231New(t *testing.T) {
	right := image.Put(imageOf(t, "halt"))
	wrong := slices.Clone(right)
	wrong[len(wrong)-4] = 30
	for _, fuel := range []int{math.MinInt, -1, maxFuel + 1, math.MaxInt} {
		for _, b := range [][]byte{right, wrong, nil} {
			if w, err := world.New(b, fuel); w != nil || err != api.ErrArg {
				t.Error(fuel, err)
			}
		}
	}
	for _, fuel := range []int{0, 1, maxFuel} {
		if w, err := world.New(right, fuel); w == nil || err != api.OK || w.Fuel() != fuel || len(w.Trace()) != 0 {
			t.Error(fuel, err)
		}
		if w, err := world.New(wrong, fuel); w != nil || err != api.ErrOp {
			t.Error(fuel, err)
		}
		for _, b := range [][]byte{nil, {}, right[:len(right)-1], append(slices.Clone(right), 0)} {
			if w, err := world.New(b, fuel); w != nil || err != api.ErrArg {
				t.Error(fuel, err)
			}
		}
	}
}

func TestP231KeepsNothingOfTheBytes(t *testing.T) {
	b := image.Put(imageOf(t, "movi r0 7; sys 0; halt"))
	w, _ := world.New(b, 9)
	clear(b)
	goes(t, w, api.Ev{Kind: api.EvRun, N: 3}, 6, api.Out{N: 3, Told: []api.Told{{N: 7}, {State: api.Ended}}})
}

func TestP231TheMachines(t *testing.T) {
	x := imageOf(t, "movi r0 20; sys 2; movi r0 64; sys 2; sys 3; halt", "sys 200")
	x.Links = []api.Link{{From: 0, To: 1}}
	w, err := world.New(image.Put(x), 100)
	m := mach.New(x)
	if err != api.OK {
		t.Fatal(err)
	}
	for range 2 {
		if !slices.Equal(w.Held(), m.Held()) {
			t.Error(w.Held())
		}
		for _, place := range []int{math.MinInt, -1, 0, 1, 2, math.MaxInt} {
			if w.State(place) != m.State(place) || w.Stat(place) != m.Stat(place) || !slices.Equal(w.Blocks(place), m.Blocks(place)) {
				t.Error(place, w.State(place), w.Stat(place))
			}
		}
		w.Step(api.Ev{Kind: api.EvRun, N: 10})
		w.Step(api.Ev{Kind: api.EvRun, A: 1, N: 10})
		m.Run(0, 10)
		m.Run(1, 10)
	}
	if w.State(0) != api.Ended || w.State(1) != api.Fault || w.Stat(0).Live != 1 || len(w.Blocks(0)) != 2 {
		t.Error(w.State(0), w.State(1), w.Stat(0))
	}
}

func TestP231OtherKinds(t *testing.T) {
	w := worldOf(t, 10, "halt")
	for _, kind := range []int{math.MinInt, -1, 0, 6, 7, 256 + api.EvRun, math.MaxInt} {
		fails(t, w, api.Ev{Kind: kind, N: 1}, api.ErrArg)
	}
}

func TestP231EvRun(t *testing.T) {
	w := worldOf(t, 20, "movi r0 5; sys 0; jmp 0", "sys 0; sys 0; sys 5; sys 0; halt")
	for _, n := range []int{math.MinInt, -1, 0, 10001, math.MaxInt} {
		for _, a := range []int{-1, 0, 2} {
			fails(t, w, api.Ev{Kind: api.EvRun, A: a, N: n}, api.ErrArg)
		}
	}
	for _, a := range []int{math.MinInt, -1, 2, 3, math.MaxInt} {
		fails(t, w, api.Ev{Kind: api.EvRun, A: a, N: 1}, api.ErrNone)
	}
	goes(t, w, api.Ev{Kind: api.EvRun, N: 2}, 18, api.Out{N: 2, Told: []api.Told{{N: 5}}})
	goes(t, w, api.Ev{Kind: api.EvRun, A: 1, N: 10000}, 15, api.Out{N: 3, Told: []api.Told{{Thread: 1}, {Thread: 1}}})
	goes(t, w, api.Ev{Kind: api.EvRun, N: 10}, 5, api.Out{N: 10})
	goes(t, w, api.Ev{Kind: api.EvRun, A: 1, N: 9}, 3, api.Out{N: 2, Told: []api.Told{{Thread: 1}, {Thread: 1, State: api.Ended}}})
	goes(t, w, api.Ev{Kind: api.EvRun, A: 1, N: 9}, 3, api.Out{})
	goes(t, w, api.Ev{Kind: api.EvRun, N: 10000}, 0, api.Out{N: 3})
	for _, a := range []int{0, 1} {
		fails(t, w, api.Ev{Kind: api.EvRun, A: a, N: 1}, api.ErrFuel)
	}
	fails(t, w, api.Ev{Kind: api.EvRun, A: 2, N: 1}, api.ErrNone)
	fails(t, w, api.Ev{Kind: api.EvRun, N: 0}, api.ErrArg)
}

func TestP231EvRunOfAFault(t *testing.T) {
	w := worldOf(t, 20, "movi r0 5; div r0 r0 r1; halt")
	goes(t, w, api.Ev{Kind: api.EvRun, N: 9}, 18, api.Out{N: 2, Told: []api.Told{{State: api.Fault, Err: api.ErrDiv}}})
	goes(t, w, api.Ev{Kind: api.EvRun, N: 9}, 18, api.Out{})
}

func TestP231EvTurns(t *testing.T) {
	w := worldOf(t, 20, "sys 0; jmp -1", "sys 0; halt", "movi r0 7; sys 0; jmp -1")
	for _, n := range []int{math.MinInt, -1, 0, 10001, math.MaxInt} {
		fails(t, w, api.Ev{Kind: api.EvTurns, A: -9, N: n}, api.ErrArg)
	}
	goes(t, w, api.Ev{Kind: api.EvTurns, A: 99, N: 3}, 12, api.Out{N: 8, Told: []api.Told{
		{Thread: 0}, {Thread: 0}, {Thread: 1}, {Thread: 1, State: api.Ended}, {Thread: 2, N: 7},
	}})
	goes(t, w, api.Ev{Kind: api.EvTurns, N: 4}, 4, api.Out{N: 8, Told: []api.Told{
		{Thread: 0}, {Thread: 0}, {Thread: 2, N: 7}, {Thread: 2, N: 7},
	}})
	goes(t, w, api.Ev{Kind: api.EvTurns, N: 3}, 0, api.Out{N: 4, Told: []api.Told{{Thread: 0}, {Thread: 2, N: 7}}})
	fails(t, w, api.Ev{Kind: api.EvTurns, N: 3}, api.ErrFuel)
	fails(t, w, api.Ev{Kind: api.EvTurns, N: 0}, api.ErrArg)
	w.Step(api.Ev{Kind: api.EvFuel, N: 2})
	goes(t, w, api.Ev{Kind: api.EvTurns, N: 10000}, 0, api.Out{N: 2, Told: []api.Told{{Thread: 0}}})
}

func TestP231EvInput(t *testing.T) {
	w := worldOf(t, 20, "sys 1; sys 0; jmp -2", "halt")
	for _, a := range []int{math.MinInt, -1, 2, 3, math.MaxInt} {
		fails(t, w, api.Ev{Kind: api.EvInput, A: a, N: 1}, api.ErrNone)
	}
	for _, n := range []int{7, -1, math.MinInt, math.MaxInt} {
		goes(t, w, api.Ev{Kind: api.EvInput, N: n}, 20, api.Out{})
	}
	goes(t, w, api.Ev{Kind: api.EvRun, N: 12}, 8, api.Out{N: 12, Told: []api.Told{{N: 7}, {N: 1<<32 - 1}, {N: 0}, {N: 1<<32 - 1}}})
	for range 1000 {
		goes(t, w, api.Ev{Kind: api.EvInput, A: 1, N: 3}, 8, api.Out{})
	}
	fails(t, w, api.Ev{Kind: api.EvInput, A: 1, N: 3}, api.ErrFull)
}

func TestP231EvSweep(t *testing.T) {
	w := worldOf(t, 100, "movi r0 64; sys 2; stc r0 r7 0; stc r0 r0 0; sys 3; halt", "halt")
	for _, n := range []int{math.MinInt, -1, 0, 10001, math.MaxInt} {
		fails(t, w, api.Ev{Kind: api.EvSweep, N: n}, api.ErrArg)
	}
	goes(t, w, api.Ev{Kind: api.EvSweep, N: 10000}, 100, api.Out{})
	w.Step(api.Ev{Kind: api.EvTurns, N: 100})
	if w.Stat(0).Pages != 2 || w.Stat(0).Now != 1 {
		t.Fatal(w.Stat(0))
	}
	goes(t, w, api.Ev{Kind: api.EvSweep, A: 77, N: 1}, w.Fuel(), api.Out{N: 1})
	goes(t, w, api.Ev{Kind: api.EvSweep, N: 10000}, w.Fuel(), api.Out{N: 1})
	if w.Stat(0).Now != 2 {
		t.Error(w.Stat(0))
	}
}

func TestP231EvFuel(t *testing.T) {
	w := worldOf(t, 10, "jmp 0")
	for _, n := range []int{math.MinInt, -1, maxFuel - 9, maxFuel, maxFuel + 1, math.MaxInt - 9, math.MaxInt} {
		fails(t, w, api.Ev{Kind: api.EvFuel, N: n}, api.ErrArg)
	}
	goes(t, w, api.Ev{Kind: api.EvFuel, A: -5, N: 0}, 10, api.Out{})
	goes(t, w, api.Ev{Kind: api.EvFuel, N: 5}, 15, api.Out{})
	goes(t, w, api.Ev{Kind: api.EvFuel, N: maxFuel - 15}, maxFuel, api.Out{})
	fails(t, w, api.Ev{Kind: api.EvFuel, N: 1}, api.ErrArg)
	goes(t, w, api.Ev{Kind: api.EvFuel, N: 0}, maxFuel, api.Out{})
	goes(t, w, api.Ev{Kind: api.EvRun, N: 10000}, maxFuel-10000, api.Out{N: 10000})
}

func TestP231AnswersAreNewMemory(t *testing.T) {
	w := worldOf(t, 100, "movi r0 64; sys 2; movi r0 9; sys 0; sys 0; sys 0; jmp 0")
	out := w.Step(api.Ev{Kind: api.EvRun, N: 6})
	want := []api.Told{{N: 9}, {N: 9}, {N: 9}}
	clear(out.Told)
	_ = append(out.Told, api.Told{N: 8})
	trace := w.Trace()
	if !slices.Equal(trace, want) {
		t.Error(trace)
	}
	clear(trace)
	_ = append(trace, api.Told{N: 7})
	held, blocks := w.Held(), w.Blocks(0)
	clear(held)
	clear(blocks)
	w.Step(api.Ev{Kind: api.EvRun, N: 6})
	if !slices.Equal(w.Trace(), want) || w.Held()[0] == (api.Cap{}) || w.Blocks(0)[0][1] == 0 {
		t.Error(w.Trace())
	}
}

func TestP232Fuel(t *testing.T) {
	programs := []string{"sys 0; sys 5; jmp -2", "movi r0 1; jmp -1", "sys 0; halt"}
	for fuel := range 60 {
		w := worldOf(t, fuel, programs...)
		done := 0
		for i := range 40 {
			e := api.Ev{Kind: api.EvRun, A: i % 3, N: 1 + i%7}
			if i%4 == 0 {
				e.Kind = api.EvTurns
			}
			done += w.Step(e).N
			if done > fuel || w.Fuel() != fuel-done {
				t.Fatal(fuel, done, w.Fuel())
			}
		}
		if done != fuel {
			t.Error(fuel, done)
		}
	}
}

func TestP233ATrace(t *testing.T) {
	w := worldOf(t, 1000, "sys 0; sys 1; jz r0 -2; halt", "sys 0; sys 0; sys 99", "sys 0; ldb r0 r0 0")
	var trace []api.Told
	for i := range 60 {
		e := api.Ev{Kind: 1 + i%5, A: i % 3, N: i / 20}
		trace = append(trace, w.Step(e).Told...)
		if !slices.Equal(w.Trace(), trace) {
			t.Fatal(w.Trace())
		}
	}
	for thread := range 3 {
		over := false
		for _, told := range trace {
			if told.Thread == thread && over {
				t.Fatal(trace)
			}
			over = over || told.Thread == thread && told.State != api.Ready
		}
		if !over {
			t.Error(thread, trace)
		}
	}
}

package theorems_test

import (
	"math/rand"
	"slices"
	"testing"

	"seizin/api"
	"seizin/image"
	"seizin/world"
)

// worldOf is that of an image.
func worldOf(t *testing.T, x api.Image, fuel int) *world.World {
	t.Helper()
	w, err := world.New(image.Put(x), fuel)
	if err != api.OK {
		t.Fatal(err)
	}
	return w
}

// event is any event, of which few are refused.
func event(r *rand.Rand, comps int) api.Ev {
	e := api.Ev{Kind: 1 + r.Intn(5), A: r.Intn(comps), N: 1 + r.Intn(60)}
	switch {
	case r.Intn(20) == 0:
		return api.Ev{Kind: r.Intn(8) - 1, A: r.Intn(9) - 2, N: []int{-1, 0, 1, 10000, 10001, 1 << 20, 1 << 40}[r.Intn(7)]}
	case e.Kind == api.EvSweep:
		e.N = 1 + r.Intn(3)
	}
	return e
}

// anyWorld is one of any image, with any programs.
func anyWorld(t *testing.T, r *rand.Rand, wild int) (*world.World, api.Image) {
	x := written(r, together(r), wild)
	return worldOf(t, x, r.Intn(20000)), x
}

func TestT1Closed(t *testing.T) {
	r := rand.New(rand.NewSource(51))
	for range 50 {
		w, x := anyWorld(t, r, 3)
		all := granted(x)
		for range 120 {
			w.Step(event(r, len(x.Comps)))
			closed(t, w, all)
		}
	}
}

func TestT2NotAgain(t *testing.T) {
	r := rand.New(rand.NewSource(52))
	many, whole := 0, 0
	for range 60 {
		w, x := anyWorld(t, r, 60)
		for range 200 {
			w.Step(event(r, len(x.Comps)))
			many += notAgain(t, w, x)
			sums(t, w, x)
		}
		whole += epochs(w, len(x.Comps))
	}
	if many < 10000 || whole < 200 {
		t.Error("too little was held, or there were too few epochs", many, whole)
	}
}

func TestT3TotalOfAnyBytes(t *testing.T) {
	r := rand.New(rand.NewSource(53))
	worlds := 0
	for range 2000 {
		b := image.Put(written(r, together(r), 2))
		for range r.Intn(4) {
			b[r.Intn(len(b))] = byte(r.Intn(256))
		}
		if r.Intn(4) == 0 {
			b = b[:r.Intn(len(b))]
		}
		w, err := world.New(b, r.Intn(3000))
		if (w == nil) != (err != api.OK) {
			t.Fatal(err)
		}
		if w == nil {
			continue
		}
		worlds++
		for range 10 {
			w.Step(event(r, 4))
		}
	}
	if worlds < 200 {
		t.Error("too few worlds", worlds)
	}
}

func TestT3TotalOfAnyCode(t *testing.T) {
	r := rand.New(rand.NewSource(54))
	for range 400 {
		x := together(r)
		for comp := range x.Comps {
			w := &writer{r: r, wild: 1}
			for len(w.l) < codeWords {
				w.anything()
			}
			x.Comps[comp].Code = w.bytes()
		}
		w := worldOf(t, x, 1<<20)
		for range 30 {
			w.Step(event(r, len(x.Comps)))
		}
	}
}

// hears has a script go on in a world, and answers what is told of the first thread.
func hears(t *testing.T, x api.Image, seed int64) []api.Told {
	t.Helper()
	w, r := worldOf(t, x, 1<<20), rand.New(rand.NewSource(seed))
	for range 120 {
		e := event(r, len(x.Comps))
		if e.Kind == api.EvSweep {
			e.N = 10000
		}
		w.Step(e)
	}
	return slices.DeleteFunc(w.Trace(), func(told api.Told) bool { return told.Thread != 0 })
}

func TestT4Apart(t *testing.T) {
	r := rand.New(rand.NewSource(55))
	many := 0
	for i := range 80 {
		x := written(r, alone(r), 40)
		one := hears(t, x, int64(i))
		x.Comps = slices.Clone(x.Comps)
		for comp := 1; comp < len(x.Comps); comp++ {
			write(r, &x, comp, 10)
		}
		if other := hears(t, x, int64(i)); !slices.Equal(one, other) {
			t.Fatal(one, other)
		}
		many += len(one)
	}
	if many < 500 {
		t.Error("too little was told", many)
	}
}

func TestT5InTime(t *testing.T) {
	r := rand.New(rand.NewSource(56))
	whole := 0
	for range 60 {
		w, x := anyWorld(t, r, 60)
		for range 150 {
			w.Step(event(r, len(x.Comps)))
			inTime(t, w, x)
		}
		// Behind one sweep of all pages each epoch that ran is over.
		before := stats(w, len(x.Comps))
		w.Step(api.Ev{Kind: api.EvSweep, N: 10000})
		for comp, s := range before {
			if s.Now%2 == 1 {
				whole++
				if w.Stat(comp).Now <= s.Now {
					t.Fatal(comp, s, w.Stat(comp))
				}
			}
		}
		inTime(t, w, x)
	}
	if whole < 10 {
		t.Error("too few epochs ran", whole)
	}
}

func TestP232NoMoreStepsThanFuel(t *testing.T) {
	r := rand.New(rand.NewSource(57))
	for range 60 {
		w, x := anyWorld(t, r, 60)
		fuel, done := w.Fuel(), 0
		for range 150 {
			e := event(r, len(x.Comps))
			out := w.Step(e)
			switch {
			case out.Err != api.OK:
			case e.Kind == api.EvFuel:
				fuel += e.N
			case e.Kind == api.EvRun || e.Kind == api.EvTurns:
				done += out.N
			}
			if done > fuel || w.Fuel() != fuel-done {
				t.Fatal(e, out.N, fuel, done, w.Fuel())
			}
		}
	}
}

func TestP233NothingIsToldBehindTheEnd(t *testing.T) {
	r := rand.New(rand.NewSource(58))
	ends := 0
	for range 150 {
		w, x := anyWorld(t, r, 2)
		var trace []api.Told
		for range 60 {
			trace = append(trace, w.Step(event(r, len(x.Comps))).Told...)
		}
		if !slices.Equal(w.Trace(), trace) {
			t.Fatal("the trace is another one")
		}
		over := make([]bool, len(x.Comps))
		for _, told := range trace {
			if over[told.Thread] {
				t.Fatal(trace)
			}
			over[told.Thread] = told.State != api.Ready
		}
		for thread, is := range over {
			if is != (w.State(thread) != api.Ready) {
				t.Fatal(thread, w.State(thread))
			}
			if is {
				ends++
			}
		}
	}
	if ends < 50 {
		t.Error("too few ends", ends)
	}
}

func TestP234OneMachine(t *testing.T) {
	r := rand.New(rand.NewSource(59))
	for range 60 {
		x := written(r, together(r), 20)
		fuel := r.Intn(20000)
		a, b := worldOf(t, x, fuel), worldOf(t, x, fuel)
		for range 80 {
			e := event(r, len(x.Comps))
			one, other := a.Step(e), b.Step(e)
			if one.Err != other.Err || one.N != other.N || !slices.Equal(one.Told, other.Told) || a.Fuel() != b.Fuel() || !slices.Equal(a.Held(), b.Held()) {
				t.Fatal(e, one, other)
			}
			for comp := range x.Comps {
				if a.Stat(comp) != b.Stat(comp) || a.State(comp) != b.State(comp) || !slices.Equal(a.Blocks(comp), b.Blocks(comp)) {
					t.Fatal(e, comp)
				}
			}
		}
		if !slices.Equal(a.Trace(), b.Trace()) {
			t.Fatal("traces")
		}
	}
}

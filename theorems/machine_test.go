package theorems_test

import (
	"math/rand"
	"slices"
	"testing"

	"seizin/api"
	"seizin/clos"
	"seizin/image"
	"seizin/mach"
)

// held is what machines, and worlds, tell alike.
type held interface {
	Held() []api.Cap
	Stat(comp int) api.Stat
	Blocks(comp int) [][2]int
}

// granted are all that was granted at first, with what heaps span.
func granted(x api.Image) *clos.Set {
	var l []api.Cap
	for comp, span := range image.Where(x).Heap {
		l = append(l, image.Grants(x, comp)...)
		for _, pair := range image.Pairs(x, comp) {
			l = append(l, pair[0], pair[1])
		}
		l = append(l, api.Cap{Tag: true, Base: span[0], Top: span[1], At: span[0], Perms: api.Read | api.Write | api.LoadCap | api.StoreCap})
	}
	return clos.New(l)
}

// closed holds that all that is held is made of what was granted.
func closed(t *testing.T, m held, all *clos.Set) {
	t.Helper()
	for _, c := range m.Held() {
		if !c.Tag || !all.Has(c) {
			t.Fatal(c)
		}
	}
}

// within: are all of a heap's bytes that one spans in one block?
func within(c api.Cap, blocks [][2]int) bool {
	return slices.ContainsFunc(blocks, func(b [2]int) bool { return b[0] <= c.Base && c.Top <= b[1] })
}

// notAgain holds that what is held spans nothing of a heap but of one block, and answers how much of heaps is held.
func notAgain(t *testing.T, m held, x api.Image) int {
	t.Helper()
	many := 0
	for comp, span := range image.Where(x).Heap {
		for _, c := range m.Held() {
			if c.Base >= c.Top || c.Top <= span[0] || c.Base >= span[1] {
				continue
			}
			many++
			if !within(c, m.Blocks(comp)) {
				t.Fatal(c, m.Blocks(comp), m.Stat(comp))
			}
		}
	}
	return many
}

// inTime holds that fewer bytes are kept apart than a heap is full with, as long as no epoch runs.
func inTime(t *testing.T, m held, x api.Image) {
	t.Helper()
	for comp := range x.Comps {
		if s := m.Stat(comp); s.Now%2 == 0 && s.Apart >= 16*x.Full {
			t.Fatal(comp, s)
		}
	}
}

// sums holds that all that is live, kept apart, or free, is the heap.
func sums(t *testing.T, m held, x api.Image) {
	t.Helper()
	for comp := range x.Comps {
		s, blocks := m.Stat(comp), 0
		for _, b := range m.Blocks(comp) {
			blocks += b[1] - b[0]
		}
		if s.Bytes+s.Apart != blocks || blocks+s.Left != 256*x.Heap {
			t.Fatal(comp, s, blocks)
		}
	}
}

// happen has anything happen to a machine.
func happen(r *rand.Rand, m *mach.Machine, comps int) {
	thread := r.Intn(comps)
	switch r.Intn(9) {
	case 0:
		m.Input(thread, r.Intn(100))
	case 1:
		m.Sweep(1 + r.Intn(3))
	default:
		m.Run(thread, []int{1, 3, 10, 60}[r.Intn(4)])
	}
}

// epochs is how many epochs a machine's compartments have had.
func epochs(m held, comps int) int {
	many := 0
	for comp := range comps {
		many += int(m.Stat(comp).Now) / 2
	}
	return many
}

func TestP222Closed(t *testing.T) {
	r := rand.New(rand.NewSource(45))
	for range 60 {
		x := written(r, together(r), 4)
		m, all := mach.New(x), granted(x)
		for range 120 {
			happen(r, m, len(x.Comps))
			closed(t, m, all)
		}
	}
}

func TestP223NotAgain(t *testing.T) {
	r := rand.New(rand.NewSource(46))
	many, whole := 0, 0
	for range 80 {
		x := written(r, together(r), 40)
		m := mach.New(x)
		for range 250 {
			happen(r, m, len(x.Comps))
			many += notAgain(t, m, x)
			sums(t, m, x)
		}
		whole += epochs(m, len(x.Comps))
	}
	if many < 10000 || whole < 500 {
		t.Error("too little was held, or there were too few epochs", many, whole)
	}
}

// freed are parts of memory that were freed, and whether an epoch has begun behind that.
type freed map[[2]int]bool

func TestP223NothingThatWasFreedIsHeld(t *testing.T) {
	r := rand.New(rand.NewSource(47))
	whole := 0
	for range 60 {
		x := written(r, together(r), 40)
		m := mach.New(x)
		was := make([]freed, len(x.Comps))
		for i := range was {
			was[i] = freed{}
		}
		for range 400 {
			before := stats(m, len(x.Comps))
			blocks := allBlocks(m, len(x.Comps))
			m.Run(r.Intn(len(x.Comps)), 1+r.Intn(9))
			if r.Intn(4) == 0 {
				m.Sweep(1 + r.Intn(3))
			}
			for comp := range x.Comps {
				// A block that was there, and is no more, was kept apart till an epoch was over: nobody has anything of it.
				for _, b := range blocks[comp] {
					if slices.Contains(m.Blocks(comp), b) {
						continue
					}
					whole++
					if m.Stat(comp).Now < before[comp].Now || m.Stat(comp).Now < 2 {
						t.Fatal(b, m.Stat(comp))
					}
					for _, c := range m.Held() {
						if c.Base < c.Top && c.Base < b[1] && b[0] < c.Top {
							t.Fatal(b, c)
						}
					}
				}
			}
		}
	}
	if whole < 500 {
		t.Error("too little was given back", whole)
	}
}

// stats are all compartments'.
func stats(m held, comps int) []api.Stat {
	var l []api.Stat
	for comp := range comps {
		l = append(l, m.Stat(comp))
	}
	return l
}

// allBlocks are all compartments'.
func allBlocks(m held, comps int) [][][2]int {
	var l [][][2]int
	for comp := range comps {
		l = append(l, m.Blocks(comp))
	}
	return l
}

// told is what a thread has told of itself, with how many steps it did, and what it has at last.
type told struct {
	steps int
	told  []api.Told
	caps  []api.Cap
	state int
}

// tells has a script go on, and answers what its first thread tells.
func tells(x api.Image, seed int64) told {
	m, r := mach.New(x), rand.New(rand.NewSource(seed))
	var all told
	for range 150 {
		thread := r.Intn(len(x.Comps))
		switch r.Intn(6) {
		case 0:
			m.Input(thread, r.Intn(100))
		case 1:
			m.Sweep(10000)
		default:
			n, l := m.Run(thread, 1+r.Intn(60))
			if thread == 0 {
				all.steps += n
				all.told = append(all.told, l...)
			}
		}
	}
	all.caps, all.state = m.Caps(0), m.State(0)
	return all
}

func TestP224Apart(t *testing.T) {
	r := rand.New(rand.NewSource(48))
	many := 0
	for i := range 120 {
		x := written(r, alone(r), 40)
		one := tells(x, int64(i))
		x.Comps = slices.Clone(x.Comps)
		for comp := 1; comp < len(x.Comps); comp++ {
			write(r, &x, comp, 10)
		}
		other := tells(x, int64(i))
		if one.steps != other.steps || one.state != other.state || !slices.Equal(one.told, other.told) || !slices.Equal(one.caps, other.caps) {
			t.Fatal(one.steps, other.steps, one.told, other.told)
		}
		many += len(one.told)
	}
	if many < 500 {
		t.Error("too little was told", many)
	}
}

func TestP225InTime(t *testing.T) {
	r := rand.New(rand.NewSource(49))
	for range 80 {
		x := written(r, together(r), 40)
		m := mach.New(x)
		for range 200 {
			happen(r, m, len(x.Comps))
			inTime(t, m, x)
		}
	}
}

func TestP225AnEpochIsOverBehindAsManyPages(t *testing.T) {
	r := rand.New(rand.NewSource(50))
	whole := 0
	for range 80 {
		x := alone(r)
		x.Comps = x.Comps[:1]
		x = written(r, x, 0)
		m := mach.New(x)
		for range 200 {
			now := m.Stat(0).Now
			m.Run(0, 1)
			if m.Stat(0).Now == now || m.Stat(0).Now%2 == 0 {
				continue
			}
			dirty, swept := m.Stat(0).Pages, 0
			for now = m.Stat(0).Now; m.Stat(0).Now == now; swept += m.Sweep(1 + r.Intn(2)) {
				if swept > 0 && swept >= dirty {
					t.Fatal(dirty, swept, m.Stat(0))
				}
				m.Run(0, 20)
			}
			if swept != dirty {
				t.Fatal(dirty, swept)
			}
			whole++
		}
	}
	if whole < 100 {
		t.Error("too few epochs", whole)
	}
}

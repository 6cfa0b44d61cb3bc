package regs_test

import (
	"math"
	"math/rand"
	"slices"
	"testing"

	"seizin/api"
	"seizin/cap"
	"seizin/regs"
)

// one is a right one, unlike others of other numbers.
func one(n int) api.Cap {
	return api.Cap{Tag: n%2 == 0, Base: n, Top: n + 9, At: n + 4, Perms: n % 128, Type: n % 256}
}

// wrongs are ones that are not right.
var wrongs = []api.Cap{{At: -1}, {Base: 1 << 32}, {Perms: 128}, {Type: 256}, {Tag: true, Base: 2, Top: 1}, {Tag: true, Top: 1<<24 + 1}}

// places are registers' numbers, and others.
var places = []int{math.MinInt, -8, -1, 0, 1, 3, 6, 7, 8, 9, 256, math.MaxInt}

// full is eight registers, each of which has something.
func full() (*regs.File, []api.Cap) {
	f := regs.New()
	var l []api.Cap
	for r := range 8 {
		l = append(l, one(10+r))
		f.Set(r, l[r])
	}
	return f, l
}

// hold holds registers against what they are to have.
func hold(t *testing.T, f *regs.File, want []api.Cap) {
	t.Helper()
	if !slices.Equal(f.All(), want) {
		t.Fatal(f.All(), want)
	}
	for _, r := range places {
		c := cap.Null()
		if r >= 0 && r < 8 {
			c = want[r]
		}
		if f.Get(r) != c || f.Value(r) != c.At {
			t.Fatal(r, f.Get(r), f.Value(r))
		}
	}
}

func TestP181New(t *testing.T) {
	f, g := regs.New(), regs.New()
	hold(t, f, make([]api.Cap, 8))
	f.Set(3, one(4))
	hold(t, g, make([]api.Cap, 8))
}

func TestP181Set(t *testing.T) {
	f, want := full()
	hold(t, f, want)
	for _, r := range places {
		is := r >= 0 && r < 8
		for _, c := range wrongs {
			if f.Set(r, c) {
				t.Error(r, c)
			}
		}
		hold(t, f, want)
		if f.Set(r, one(77)) != is {
			t.Error(r)
		}
		if is {
			want[r] = one(77)
		}
		hold(t, f, want)
	}
	if f.Set(9, cap.Null()) {
		t.Error("example")
	}
}

func TestP181Put(t *testing.T) {
	f, want := full()
	var l []api.Cap
	for n := range 12 {
		if n != 8 {
			if f.Put(l) {
				t.Error(n)
			}
			hold(t, f, want)
		}
		l = append(l, one(30+n))
	}
	for i := range 8 {
		for _, c := range wrongs {
			m := slices.Clone(l[:8])
			m[i] = c
			if f.Put(m) {
				t.Error(i, c)
			}
			hold(t, f, want)
		}
	}
	if f.Put(nil) || !f.Put(l[:8]) {
		t.Error("put")
	}
	hold(t, f, l[:8])
	before := slices.Clone(l)
	f.Set(0, one(99))
	f.Clear(1, 3)
	if !slices.Equal(l, before) {
		t.Error("what was handed in was changed")
	}
	f.Put(l[:8])
	l[5] = cap.Null()
	hold(t, f, before[:8])
}

func TestP181AllIsNewMemory(t *testing.T) {
	f, want := full()
	l := f.All()
	clear(l)
	_ = append(l, one(3))
	hold(t, f, want)
}

func TestP181Clear(t *testing.T) {
	for _, from := range places {
		for _, to := range places {
			f, want := full()
			for r := range want {
				if r >= from && r < to {
					want[r] = cap.Null()
				}
			}
			f.Clear(from, to)
			hold(t, f, want)
		}
	}
}

func TestP182Eight(t *testing.T) {
	r := rand.New(rand.NewSource(36))
	f, want := full()
	for range 2000 {
		switch r.Intn(8) {
		case 0:
			from, to := r.Intn(12)-2, r.Intn(12)-2
			f.Clear(from, to)
			for i := max(from, 0); i < min(to, 8); i++ {
				want[i] = cap.Null()
			}
		case 1:
			for i := range want {
				want[i] = one(r.Intn(200))
			}
			if !f.Put(slices.Clone(want)) {
				t.Fatal("put")
			}
		default:
			i, c := r.Intn(12)-2, one(r.Intn(200))
			is := i >= 0 && i < 8
			if f.Set(i, c) != is {
				t.Fatal(i)
			}
			if is {
				want[i] = c
			}
		}
		hold(t, f, want)
	}
}

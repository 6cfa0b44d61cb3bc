package frames_test

import (
	"math/rand"
	"slices"
	"testing"

	"seizin/api"
	"seizin/frames"
)

// one is a right one, unlike others of other numbers.
func one(n int) api.Cap {
	return api.Cap{Tag: n%2 == 0, Base: n, Top: n + 9, At: n + 4, Perms: n % 128, Type: n % 256}
}

// frame is one of five such.
func frame(n int) api.Frame {
	return api.Frame{At: one(n), Regs: [4]api.Cap{one(n + 1), one(n + 2), one(n + 3), one(n + 4)}}
}

// told are a frame's capabilities.
func told(f api.Frame) []api.Cap {
	return []api.Cap{f.At, f.Regs[0], f.Regs[1], f.Regs[2], f.Regs[3]}
}

// wrongs are ones that are not right.
var wrongs = []api.Cap{{At: -1}, {Base: 1 << 32}, {Perms: 128}, {Type: 256}, {Tag: true, Base: 2, Top: 1}, {Tag: true, Top: 1<<24 + 1}}

// hold holds a stack against the frames that it is to have.
func hold(t *testing.T, s *frames.Stack, want []api.Frame) {
	t.Helper()
	var l []api.Cap
	for _, f := range want {
		l = append(l, told(f)...)
	}
	if s.Many() != len(want) || !slices.Equal(s.Caps(), l) {
		t.Fatal(s.Many(), s.Caps())
	}
}

// stack is one of so many frames.
func stack(many int) (*frames.Stack, []api.Frame) {
	s := frames.New()
	var l []api.Frame
	for i := range many {
		l = append(l, frame(20*i))
		s.Push(l[i])
	}
	return s, l
}

func TestP191New(t *testing.T) {
	s, other := frames.New(), frames.New()
	hold(t, s, nil)
	if f, is := s.Pop(); f != (api.Frame{}) || is {
		t.Error(f)
	}
	if !s.Put(nil) || s.Put([]api.Cap{one(1)}) || s.Put(told(frame(1))) {
		t.Error("put")
	}
	s.Push(frame(1))
	hold(t, other, nil)
}

func TestP191Push(t *testing.T) {
	for many := range 17 {
		s, want := stack(many)
		hold(t, s, want)
		for place := range 5 {
			for _, w := range wrongs {
				f := frame(7)
				if place == 0 {
					f.At = w
				} else {
					f.Regs[place-1] = w
				}
				if s.Push(f) {
					t.Error(many, f)
				}
				hold(t, s, want)
			}
		}
		fits := many < 16
		if s.Push(frame(7)) != fits {
			t.Error(many)
		}
		if fits {
			want = append(want, frame(7))
		}
		hold(t, s, want)
	}
}

func TestP191Pop(t *testing.T) {
	s, want := stack(16)
	for i := 15; i >= 0; i-- {
		if f, is := s.Pop(); f != want[i] || !is {
			t.Error(i, f)
		}
		hold(t, s, want[:i])
	}
	if f, is := s.Pop(); f != (api.Frame{}) || is {
		t.Error(f)
	}
}

func TestP191Put(t *testing.T) {
	for _, many := range []int{1, 2, 16} {
		s, want := stack(many)
		var l []api.Cap
		var others []api.Frame
		for i := range many {
			others = append(others, frame(3+20*i))
			l = append(l, told(others[i])...)
		}
		for _, m := range [][]api.Cap{nil, l[:len(l)-1], l[:5*(many-1)], append(slices.Clone(l), one(1)), append(slices.Clone(l), l[:5]...)} {
			if s.Put(m) {
				t.Error(many, len(m))
			}
			hold(t, s, want)
		}
		for place := range l {
			for _, w := range wrongs {
				m := slices.Clone(l)
				m[place] = w
				if s.Put(m) {
					t.Error(many, place, w)
				}
				hold(t, s, want)
			}
		}
		before := slices.Clone(l)
		if !s.Put(l) {
			t.Error(many)
		}
		hold(t, s, others)
		s.Pop()
		s.Push(frame(99))
		if !slices.Equal(l, before) {
			t.Error("what was handed in was changed")
		}
		clear(l)
		hold(t, s, append(others[:many-1], frame(99)))
	}
}

func TestP191CapsAreNewMemory(t *testing.T) {
	s, want := stack(3)
	l := s.Caps()
	clear(l)
	_ = append(l, one(5))
	hold(t, s, want)
}

func TestP192AStack(t *testing.T) {
	r := rand.New(rand.NewSource(37))
	s := frames.New()
	var want []api.Frame
	for range 4000 {
		switch r.Intn(5) {
		case 0, 1:
			f := frame(r.Intn(200))
			if s.Push(f) != (len(want) < 16) {
				t.Fatal(len(want))
			}
			if len(want) < 16 {
				want = append(want, f)
			}
		case 2:
			var l []api.Cap
			for i := range want {
				want[i] = frame(r.Intn(200))
				l = append(l, told(want[i])...)
			}
			if !s.Put(l) {
				t.Fatal(len(l))
			}
		default:
			f, is := s.Pop()
			if is != (len(want) > 0) {
				t.Fatal(len(want))
			}
			if is {
				if f != want[len(want)-1] {
					t.Fatal(f)
				}
				want = want[:len(want)-1]
			}
		}
		hold(t, s, want)
	}
}

package code_test

import (
	"bytes"
	"math"
	"math/rand"
	"slices"
	"testing"

	"seizin/api"
	"seizin/code"
)

// kinds are those of the chapter, by the instructions' numbers.
var kinds = []string{
	"---", "rwv", "rr-", "rrr", "rrr", "rrr", "rrr", "rrr", "rrr", "-wv",
	"rwv", "rri", "rri", "rri", "rri", "rri", "rri", "rrr", "rrr", "rri",
	"rrr", "rrr", "rr-", "rr-", "---", "rr-", "rr-", "rr-", "rr-", "i--",
}

// wrongOps are no instructions' numbers.
var wrongOps = []int{math.MinInt, -256, -1, 30, 31, 255, 256, 285, math.MaxInt}

// numbers are those at which a kind's answer turns.
var numbers = []int{math.MinInt, -65536, -32769, -32768, -32767, -256, -1, 0, 1, 6, 7, 8, 127, 128, 254, 255, 256, 32766, 32767, 32768, 65535, 65536, math.MaxInt}

// fits: is a number right of a kind?
func fits(kind byte, n int) bool {
	switch kind {
	case 'r':
		return n >= 0 && n < 8
	case 'i':
		return n >= 0 && n < 256
	case 'w':
		return n >= -32768 && n < 32768
	}
	return n == 0
}

// right: is one right?
func right(x api.Ins) bool {
	if x.Op < 0 || x.Op > 29 {
		return false
	}
	k := kinds[x.Op]
	return fits(k[0], x.A) && fits(k[1], x.B) && fits(k[2], x.C)
}

// told is a right one's bytes.
func told(x api.Ins) []byte {
	b := []byte{byte(x.Op), byte(x.A), byte(x.B), byte(x.C)}
	for i, n := range []int{x.A, x.B, x.C} {
		if kinds[x.Op][i] == 'w' {
			n = (n + 65536) % 65536
			b[i+1], b[i+2] = byte(n/256), byte(n%256)
		}
	}
	return b
}

// some are right ones of all numbers.
func some() []api.Ins {
	var l []api.Ins
	for op := range kinds {
		for _, a := range numbers {
			for _, b := range numbers {
				for _, c := range numbers {
					if x := (api.Ins{Op: op, A: a, B: b, C: c}); right(x) {
						l = append(l, x)
					}
				}
			}
		}
	}
	return l
}

func TestP151Kinds(t *testing.T) {
	for op, want := range kinds {
		if got := code.Kinds(op); got != want {
			t.Error(op, got)
		}
	}
	for _, op := range wrongOps {
		if got := code.Kinds(op); got != "" {
			t.Error(op, got)
		}
	}
}

func TestP151RightAndPut(t *testing.T) {
	ops := slices.Clone(wrongOps)
	for op := range kinds {
		ops = append(ops, op)
	}
	for _, op := range ops {
		for _, a := range numbers {
			for _, b := range numbers {
				for _, c := range numbers {
					x := api.Ins{Op: op, A: a, B: b, C: c}
					if code.Right(x) != right(x) {
						t.Fatal(x)
					}
					var want []byte
					if right(x) {
						want = told(x)
					}
					if got := code.Put(x); !bytes.Equal(got, want) {
						t.Fatal(x, got)
					}
				}
			}
		}
	}
	if got := code.Put(api.Ins{Op: api.Movi, A: 1, B: -1}); !bytes.Equal(got, []byte{1, 1, 255, 255}) {
		t.Error(got)
	}
	if got := code.Put(api.Ins{Op: api.Jmp, B: 258}); !bytes.Equal(got, []byte{9, 0, 1, 2}) {
		t.Error(got)
	}
}

func TestP151PutIsNewMemory(t *testing.T) {
	x := api.Ins{Op: api.Add, A: 1, B: 2, C: 3}
	a, b := code.Put(x), code.Put(x)
	a[0] = 77
	_ = append(a, 9)
	if b[0] != 3 || code.Put(x)[0] != 3 {
		t.Error("shared")
	}
}

func TestP151Get(t *testing.T) {
	for n := range 12 {
		want := api.ErrArg
		if n == 4 {
			want = api.OK
		}
		if x, err := code.Get(make([]byte, n)); x != (api.Ins{}) || err != want {
			t.Error(n, x, err)
		}
	}
	for i, row := range []struct {
		b   []byte
		x   api.Ins
		err api.Errno
	}{
		{[]byte{1, 1, 255, 255}, api.Ins{Op: 1, A: 1, B: -1}, 0},
		{[]byte{1, 7, 128, 0}, api.Ins{Op: 1, A: 7, B: -32768}, 0},
		{[]byte{1, 7, 127, 255}, api.Ins{Op: 1, A: 7, B: 32767}, 0},
		{[]byte{1, 8, 0, 0}, api.Ins{}, 151},
		{[]byte{9, 0, 255, 254}, api.Ins{Op: 9, B: -2}, 0},
		{[]byte{9, 1, 0, 0}, api.Ins{}, 151},
		{[]byte{0, 0, 0, 1}, api.Ins{}, 151},
		{[]byte{0, 1, 0, 0}, api.Ins{}, 151},
		{[]byte{2, 7, 7, 1}, api.Ins{}, 151},
		{[]byte{11, 7, 7, 255}, api.Ins{Op: 11, A: 7, B: 7, C: 255}, 0},
		{[]byte{29, 255, 0, 0}, api.Ins{Op: 29, A: 255}, 0},
		{[]byte{29, 255, 0, 1}, api.Ins{}, 151},
		{[]byte{30, 0, 0, 0}, api.Ins{}, 151},
		{[]byte{255, 255, 255, 255}, api.Ins{}, 151},
	} {
		if x, err := code.Get(row.b); x != row.x || err != row.err {
			t.Error(i, x, err)
		}
	}
}

func TestP151All(t *testing.T) {
	var b []byte
	var want []api.Ins
	for i, x := range some() {
		if i%97 == 0 {
			b, want = append(b, told(x)...), append(want, x)
		}
	}
	hold := func(what string, b []byte, l []api.Ins, n int, err api.Errno) {
		t.Helper()
		got, at, wrong := code.All(b)
		if !slices.Equal(got, l) || at != n || wrong != err {
			t.Error(what, len(got), at, wrong)
		}
	}
	hold("nothing", nil, nil, 0, 0)
	hold("one", b[:4], want[:1], 4, 0)
	hold("all", b, want, len(b), 0)
	for more := 1; more < 4; more++ {
		hold("a piece", b[:more], nil, 0, 1)
		hold("a piece more", b[:8+more], nil, 8, 1)
	}
	for at := 0; at < len(b); at += 4 {
		wrong := bytes.Clone(b)
		wrong[at] = 30
		hold("no instruction", wrong, nil, at, 151)
		wrong[len(b)-4] = 31
		hold("two of them", append(wrong, 0), nil, at, 151)
	}
	before := bytes.Clone(b)
	code.All(b[:len(b)-2])
	if !bytes.Equal(b, before) {
		t.Error("what was handed in was changed")
	}
}

func TestP152ThereAndBack(t *testing.T) {
	for _, x := range some() {
		if got, err := code.Get(code.Put(x)); got != x || err != api.OK {
			t.Fatal(x, got, err)
		}
	}
}

func TestP152AnyBytes(t *testing.T) {
	r := rand.New(rand.NewSource(29))
	fine := 0
	for range 100000 {
		b := []byte{byte(r.Intn(32)), byte(r.Intn(10)), byte(r.Intn(256)), byte(r.Intn(256))}
		for i := range b {
			if r.Intn(3) == 0 {
				b[i] = byte(r.Intn(3))
			}
		}
		x, err := code.Get(b)
		if err == api.OK {
			fine++
			if !code.Right(x) || !bytes.Equal(code.Put(x), b) {
				t.Fatal(b, x)
			}
		} else if err != api.ErrOp || x != (api.Ins{}) {
			t.Fatal(b, x, err)
		}
	}
	if fine == 0 {
		t.Error("none was right")
	}
}

func TestP153OneByOne(t *testing.T) {
	r := rand.New(rand.NewSource(30))
	for range 20000 {
		b := make([]byte, r.Intn(18))
		for i := range b {
			b[i] = byte(r.Intn(5))
		}
		var want []api.Ins
		each := len(b)%4 == 0
		for i := 0; i+4 <= len(b); i += 4 {
			x, err := code.Get(b[i : i+4])
			each = each && err == api.OK
			want = append(want, x)
		}
		l, n, err := code.All(b)
		if (err == api.OK) != each {
			t.Fatal(b, err)
		}
		if each && (n != len(b) || !slices.Equal(l, want)) || !each && len(l) != 0 {
			t.Fatal(b, l, n)
		}
	}
}

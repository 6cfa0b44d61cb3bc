package alu_test

import (
	"bytes"
	"math"
	"math/big"
	"math/rand"
	"slices"
	"testing"

	"seizin/alu"
	"seizin/api"
)

// ops are those that make a number of two.
var ops = []int{api.Add, api.Sub, api.Mul, api.Div, api.Lt, api.Eq}

// numbers are those at which an answer may turn.
var numbers = []int{
	math.MinInt, -1 << 40, -1<<32 - 1, -1 << 32, -1<<31 - 1, -1 << 31, -255, -2, -1, 0, 1, 2, 3, 7, 255, 256, 65535, 65536,
	1<<31 - 1, 1 << 31, 1<<32 - 2, 1<<32 - 1, 1 << 32, 1<<32 + 1, 1 << 40, math.MaxInt,
}

// modulo is a number modulo 2^32.
func modulo(n int) *big.Int {
	return new(big.Int).Mod(big.NewInt(int64(n)), big.NewInt(1<<32))
}

// do is what Do is to answer, by numbers that do not go round.
func do(op int, a int, b int) (int, api.Errno) {
	x, y, n := modulo(a), modulo(b), new(big.Int)
	switch op {
	case api.Add:
		n.Add(x, y)
	case api.Sub:
		n.Sub(x, y)
	case api.Mul:
		n.Mul(x, y)
	case api.Div:
		if y.Sign() == 0 {
			return 0, 201
		}
		n.Div(x, y)
	case api.Lt:
		if x.Cmp(y) < 0 {
			n.SetInt64(1)
		}
	case api.Eq:
		if x.Cmp(y) == 0 {
			n.SetInt64(1)
		}
	}
	return int(n.Mod(n, big.NewInt(1<<32)).Int64()), 0
}

func TestP201Is(t *testing.T) {
	for op := -300; op < 300; op++ {
		if alu.Is(op) != slices.Contains(ops, op) {
			t.Error(op)
		}
	}
	for _, op := range []int{math.MinInt, math.MaxInt, 1<<32 + api.Add} {
		if alu.Is(op) {
			t.Error(op)
		}
	}
}

func TestP201Do(t *testing.T) {
	for _, op := range ops {
		for _, a := range numbers {
			for _, b := range numbers {
				want, wrong := do(op, a, b)
				if got, err := alu.Do(op, a, b); got != want || err != wrong {
					t.Error(op, a, b, got, err)
				}
			}
		}
	}
	for i, row := range []struct{ op, a, b, want int }{
		{api.Sub, 0, 1, 4294967295}, {api.Add, 1<<32 - 1, 1, 0}, {api.Mul, 65536, 65536, 0}, {api.Div, 7, 2, 3}, {api.Div, -1, 2, 1<<31 - 1},
		{api.Lt, -1, 1, 0}, {api.Lt, 1, -1, 1}, {api.Lt, 3, 3, 0}, {api.Eq, -1, 1<<32 - 1, 1}, {api.Eq, 1, 2, 0},
	} {
		if got, err := alu.Do(row.op, row.a, row.b); got != row.want || err != 0 {
			t.Error(i, got, err)
		}
	}
	for _, zero := range []int{0, 1 << 32, -1 << 32} {
		if got, err := alu.Do(api.Div, 5, zero); got != 0 || err != 201 {
			t.Error(zero, got, err)
		}
	}
	for _, op := range []int{math.MinInt, -1, api.Halt, api.Movi, api.Mov, api.Jmp, api.Sys, 30, 256 + api.Add, math.MaxInt} {
		if got, err := alu.Do(op, 5, 0); got != 0 || err != 151 {
			t.Error(op, got, err)
		}
	}
}

func TestP201Bytes(t *testing.T) {
	for _, n := range numbers {
		all := make([]byte, 4)
		modulo(n).FillBytes(all)
		for _, size := range []int{math.MinInt, -1, 0, 1, 2, 3, 4, 5, 8, math.MaxInt} {
			var want []byte
			if size >= 1 && size <= 4 {
				want = all[4-size:]
			}
			if got := alu.Bytes(n, size); !bytes.Equal(got, want) {
				t.Error(n, size, got)
			}
		}
	}
	if got := alu.Bytes(0x01020304, 3); !bytes.Equal(got, []byte{2, 3, 4}) {
		t.Error(got)
	}
	a, b := alu.Bytes(5, 4), alu.Bytes(5, 4)
	a[3] = 9
	_ = append(a, 1)
	if b[3] != 5 {
		t.Error("shared")
	}
}

func TestP201Number(t *testing.T) {
	b := []byte{9, 255, 1, 2, 3, 254}
	for i, row := range []struct {
		from, to, want int
	}{{0, 0, 0}, {0, 1, 9}, {1, 2, 255}, {2, 4, 258}, {2, 5, 66051}, {1, 5, 0xff010203}, {0, 5, 0xff010203}, {0, 6, 0x010203fe}, {2, 6, 0x010203fe}} {
		if got := alu.Number(b[row.from:row.to]); got != row.want {
			t.Error(i, got)
		}
	}
	if alu.Number(nil) != 0 || alu.Number(bytes.Repeat([]byte{255}, 1000)) != 1<<32-1 {
		t.Error("none, or many")
	}
	if !bytes.Equal(b, []byte{9, 255, 1, 2, 3, 254}) {
		t.Error("what was handed in was changed")
	}
}

func TestP202Modulo(t *testing.T) {
	r := rand.New(rand.NewSource(38))
	for range 3000 {
		a, b := r.Intn(1<<32), r.Intn(1<<32)
		if r.Intn(3) == 0 {
			a, b = r.Intn(5), r.Intn(5)
		}
		for _, op := range ops {
			want, wrong := alu.Do(op, a, b)
			if want < 0 || want >= 1<<32 {
				t.Fatal(op, a, b, want)
			}
			x, y := a+(r.Intn(9)-4)<<32, b+(r.Intn(9)-4)<<32
			if got, err := alu.Do(op, x, y); got != want || err != wrong {
				t.Fatal(op, x, y, got)
			}
			if !bytes.Equal(alu.Bytes(x, 4), alu.Bytes(a, 4)) {
				t.Fatal(x)
			}
		}
	}
}

func TestP203ThereAndBack(t *testing.T) {
	r := rand.New(rand.NewSource(39))
	for range 5000 {
		n := r.Intn(1 << 32)
		if alu.Number(alu.Bytes(n, 4)) != n {
			t.Fatal(n)
		}
		b := make([]byte, 1+r.Intn(4))
		r.Read(b)
		if !bytes.Equal(alu.Bytes(alu.Number(b), len(b)), b) {
			t.Fatal(b)
		}
	}
	for _, n := range numbers {
		if alu.Number(alu.Bytes(n, 4)) != int(modulo(n).Int64()) {
			t.Error(n)
		}
	}
}

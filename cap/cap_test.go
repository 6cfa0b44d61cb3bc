package cap_test

import (
	"math"
	"math/big"
	"math/rand"
	"testing"

	"seizin/api"
	"seizin/cap"
)

const (
	maxAddr = 1<<32 - 1
	maxMem  = 1 << 24
)

// edges are numbers at which an answer may turn.
var edges = []int{
	math.MinInt, math.MinInt + 1, -maxAddr - 1, -maxAddr, -17, -16, -1, 0, 1, 15, 16, 17, 127, 128, 255, 256,
	maxMem - 1, maxMem, maxMem + 1, maxAddr - 1, maxAddr, maxAddr + 1, 1 << 40, math.MaxInt - 1, math.MaxInt,
}

// good is a right capability, of which tests change a part.
func good() api.Cap {
	return api.Cap{Tag: true, Base: 16, Top: 48, At: 20, Perms: 11}
}

func TestP21RightBounds(t *testing.T) {
	for _, n := range edges {
		address := 0 <= n && n <= maxAddr
		for _, tag := range []bool{false, true} {
			c := good()
			c.Tag, c.At = tag, n
			if cap.Right(c) != address {
				t.Error("at", c)
			}
			c = good()
			c.Tag, c.Base = tag, n
			if want := address && (!tag || n <= 48); cap.Right(c) != want {
				t.Error("base", c)
			}
			c = good()
			c.Tag, c.Top = tag, n
			if want := address && (!tag || 16 <= n && n <= maxMem); cap.Right(c) != want {
				t.Error("top", c)
			}
			c = good()
			c.Tag, c.Perms = tag, n
			if want := 0 <= n && n <= 127; cap.Right(c) != want {
				t.Error("perms", c)
			}
			c = good()
			c.Tag, c.Type = tag, n
			if want := 0 <= n && n <= 255; cap.Right(c) != want {
				t.Error("type", c)
			}
		}
	}
}

func TestP21RightSpan(t *testing.T) {
	for _, c := range []struct {
		one  api.Cap
		want bool
	}{
		{api.Cap{}, true},
		{api.Cap{Tag: true}, true},
		{api.Cap{Tag: true, Base: 5, Top: 5}, true},
		{api.Cap{Tag: true, Base: 6, Top: 5}, false},
		{api.Cap{Base: 6, Top: 5}, true},
		{api.Cap{Base: maxAddr, Top: 0, At: maxAddr, Perms: 127, Type: 255}, true},
		{api.Cap{Tag: true, Base: maxMem, Top: maxMem, At: maxAddr, Perms: 127, Type: 255}, true},
		{api.Cap{Tag: true, Base: maxMem + 1, Top: maxMem + 1}, false},
	} {
		if cap.Right(c.one) != c.want {
			t.Error(c.one)
		}
	}
}

func TestP21IntAndValue(t *testing.T) {
	for _, n := range edges {
		want := modulo(big.NewInt(int64(n)))
		if got := cap.Int(n); got != (api.Cap{At: want}) || !cap.Right(got) {
			t.Error(n, got)
		}
		if got := cap.Value(cap.Int(n)); got != want {
			t.Error(n, got)
		}
		if got := cap.Value(api.Cap{Tag: true, At: n, Type: 7}); got != n {
			t.Error(n, got)
		}
	}
	if cap.Int(-1).At != 4294967295 || cap.Null() != (api.Cap{}) {
		t.Error("examples")
	}
}

func TestP21Root(t *testing.T) {
	for _, n := range edges {
		want := api.Cap{}
		if 1 <= n && n <= maxMem {
			want = api.Cap{Tag: true, Top: n, Perms: 127}
		}
		if got := cap.Root(n); got != want {
			t.Error(n, got)
		}
	}
}

func TestP21Size(t *testing.T) {
	for _, base := range edges {
		for _, top := range edges {
			want := 0
			if top > base {
				want = top - base
			}
			if got := cap.Size(api.Cap{Base: base, Top: top}); got != want {
				t.Error(base, top, got)
			}
		}
	}
	if cap.Size(good()) != 32 {
		t.Error("32")
	}
}

// modulo is a number modulo 2^32, without the machine's own numbers.
func modulo(n *big.Int) int {
	return int(new(big.Int).Mod(n, big.NewInt(1<<32)).Int64())
}

func TestP21Off(t *testing.T) {
	for _, base := range edges {
		for _, at := range edges {
			want := modulo(new(big.Int).Sub(big.NewInt(int64(at)), big.NewInt(int64(base))))
			if got := cap.Off(api.Cap{Base: base, At: at}); got != want {
				t.Error(base, at, got)
			}
		}
	}
	if cap.Off(api.Cap{Base: 16, At: 4}) != 1<<32-12 {
		t.Error("example")
	}
}

// in is In, by numbers that do not go round.
func in(c api.Cap, at int, n int) bool {
	sum := new(big.Int).Add(big.NewInt(int64(at)), big.NewInt(int64(n)))
	return at >= 0 && n >= 0 && at >= c.Base && sum.Cmp(big.NewInt(int64(c.Top))) <= 0
}

func TestP21In(t *testing.T) {
	for _, base := range edges {
		for _, top := range edges {
			c := api.Cap{Base: base, Top: top}
			for _, at := range edges {
				for _, n := range edges {
					if cap.In(c, at, n) != in(c, at, n) {
						t.Fatal(c, at, n)
					}
				}
			}
		}
	}
	c := good()
	for at := 0; at < 60; at++ {
		for n := 0; n < 60; n++ {
			if cap.In(c, at, n) != (at >= 16 && at+n <= 48) {
				t.Error(at, n)
			}
		}
	}
	if !cap.In(c, 20, 28) || cap.In(c, 20, 29) || !cap.In(c, 48, 0) || cap.In(c, 49, 0) {
		t.Error("examples")
	}
}

// under is Under, as the chapter says it, of permissions that are right.
func under(c api.Cap, d api.Cap) bool {
	for _, n := range []int{c.Base, c.Top} {
		if n < d.Base || n > d.Top {
			return false
		}
	}
	for bit := 1; bit < 128; bit *= 2 {
		if c.Perms/bit%2 == 1 && d.Perms/bit%2 == 0 {
			return false
		}
	}
	return c.Base <= c.Top
}

func TestP21Under(t *testing.T) {
	spans := []int{0, 1, 2, 3}
	for _, a := range spans {
		for _, b := range spans {
			for _, x := range spans {
				for _, y := range spans {
					for p := range 8 {
						for q := range 8 {
							c, d := api.Cap{Base: a, Top: b, Perms: p * 16, At: 9}, api.Cap{Base: x, Top: y, Perms: q * 16, Type: 3}
							if cap.Under(c, d) != under(c, d) {
								t.Error(c, d)
							}
							c.Tag, d.Type = true, 0
							if cap.Under(c, d) != under(c, d) {
								t.Error(c, d)
							}
						}
					}
				}
			}
		}
	}
	for _, p := range []int{-1, 128, math.MinInt, math.MaxInt} {
		c := good()
		c.Perms = p
		if cap.Under(c, good()) || cap.Under(good(), c) || cap.Under(c, c) {
			t.Error(p)
		}
	}
}

// some are right tagged ones, many of which are under others.
func some(many int) []api.Cap {
	r := rand.New(rand.NewSource(2))
	var l []api.Cap
	for range many {
		base := r.Intn(6)
		l = append(l, api.Cap{Tag: true, Base: base, Top: base + r.Intn(6), At: r.Intn(20), Perms: r.Intn(8), Type: r.Intn(3)})
	}
	return l
}

func TestP22UnderIsAnOrder(t *testing.T) {
	l := some(120)
	for _, c := range l {
		if !cap.Right(c) || !cap.Under(c, c) {
			t.Error(c)
		}
		for _, d := range l {
			same := c.Base == d.Base && c.Top == d.Top && c.Perms == d.Perms
			if both := cap.Under(c, d) && cap.Under(d, c); both != same {
				t.Error(c, d)
			}
			for _, e := range l {
				if cap.Under(c, d) && cap.Under(d, e) && !cap.Under(c, e) {
					t.Error(c, d, e)
				}
			}
		}
	}
}

func TestP23WhatOneSpansAllSpanThatItIsUnder(t *testing.T) {
	l := some(150)
	for _, c := range l {
		for _, d := range l {
			for at := -1; at < 14; at++ {
				for n := -1; n < 14; n++ {
					if cap.Under(c, d) && cap.In(c, at, n) && !cap.In(d, at, n) {
						t.Error(c, d, at, n)
					}
				}
			}
		}
	}
}

func TestP23AllAreUnderRoot(t *testing.T) {
	root := cap.Root(maxMem)
	l := append(some(100),
		api.Cap{Tag: true, Base: maxMem, Top: maxMem, At: maxAddr, Perms: 127, Type: 255},
		api.Cap{Tag: true, Top: maxMem, Perms: 127}, root)
	for _, c := range l {
		if !cap.Right(c) || !cap.Under(c, root) {
			t.Error(c)
		}
	}
	for _, c := range []api.Cap{{Tag: true, Top: maxMem + 1}, {Tag: true, Base: -1}, {Tag: true, Perms: 128}} {
		if cap.Right(c) || cap.Under(c, root) {
			t.Error(c)
		}
	}
}

package enc_test

import (
	"bytes"
	"math"
	"math/rand"
	"testing"

	"seizin/api"
	"seizin/cap"
	"seizin/enc"
)

const (
	maxAddr = 1<<32 - 1
	maxMem  = 1 << 24
)

// rights are right ones: the edges of each part, and some between.
func rights() []api.Cap {
	var l []api.Cap
	addresses := []int{0, 1, 255, 256, 0x01020304, 0xfffefdfc, maxAddr}
	for _, base := range addresses {
		for _, top := range addresses {
			for _, at := range addresses {
				for _, perms := range []int{0, 1, 64, 127} {
					for _, sealed := range []int{0, 1, 255} {
						l = append(l, api.Cap{Base: base, Top: top, At: at, Perms: perms, Type: sealed})
					}
				}
			}
		}
	}
	for _, base := range []int{0, 1, 256, maxMem} {
		for _, top := range []int{base, maxMem} {
			for _, at := range addresses {
				l = append(l, api.Cap{Tag: true, Base: base, Top: top, At: at, Perms: 127, Type: 255}, api.Cap{Tag: true, Base: base, Top: top, At: at})
			}
		}
	}
	return l
}

// wrongs are ones that are not right.
func wrongs() []api.Cap {
	return []api.Cap{
		{Base: -1}, {Top: maxAddr + 1}, {At: -1}, {At: maxAddr + 1}, {Perms: 128}, {Perms: -1}, {Type: 256}, {Type: -1},
		{Tag: true, Base: 2, Top: 1}, {Tag: true, Top: maxMem + 1}, {At: math.MinInt}, {At: math.MaxInt},
	}
}

// told is a right one's bytes, by division alone.
func told(c api.Cap) []byte {
	var b []byte
	for _, n := range []int{c.At, c.Base, c.Top} {
		for _, unit := range []int{1 << 24, 1 << 16, 1 << 8, 1} {
			b = append(b, byte(n/unit%256))
		}
	}
	return append(b, 0, byte(c.Perms), 0, byte(c.Type))
}

func TestP31Put(t *testing.T) {
	for _, c := range rights() {
		if got := enc.Put(c); !bytes.Equal(got, told(c)) {
			t.Fatal(c, got)
		}
	}
	for _, c := range wrongs() {
		if got := enc.Put(c); len(got) != 0 {
			t.Error(c, got)
		}
	}
	one := []byte{0, 0, 0, 1, 0, 0, 0, 0, 0, 0, 0, 0, 0, 0, 0, 0}
	if !bytes.Equal(enc.Put(cap.Int(1)), one) {
		t.Error("example")
	}
}

func TestP31PutAnswersNewMemory(t *testing.T) {
	a, b := enc.Put(cap.Int(1)), enc.Put(cap.Int(1))
	a[0] = 9
	_ = append(a, 7)
	if b[0] != 0 || enc.Put(cap.Int(1))[0] != 0 {
		t.Error("shared")
	}
}

func TestP31Same(t *testing.T) {
	c := api.Cap{Base: 16, Top: 48, At: 20, Perms: 11, Type: 2}
	tagged := c
	tagged.Tag = true
	if !enc.Same(c, c) || !enc.Same(c, tagged) || !enc.Same(tagged, c) {
		t.Error("the tag is not told")
	}
	for i, change := range []func(*api.Cap){
		func(d *api.Cap) { d.Base++ }, func(d *api.Cap) { d.Top++ }, func(d *api.Cap) { d.At++ },
		func(d *api.Cap) { d.Perms++ }, func(d *api.Cap) { d.Type++ },
	} {
		d := c
		change(&d)
		if enc.Same(c, d) || enc.Same(d, c) || !enc.Same(d, d) {
			t.Error(i)
		}
	}
	for _, w := range wrongs() {
		if enc.Same(w, w) || enc.Same(c, w) || enc.Same(w, c) || enc.Same(w, wrongs()[0]) {
			t.Error(w)
		}
	}
}

func TestP31GetOfAnotherLength(t *testing.T) {
	for n := range 40 {
		for _, tag := range []bool{false, true} {
			c, is := enc.Get(make([]byte, n), tag)
			if want := n == 16; is != want || c != (api.Cap{Tag: want && tag}) {
				t.Error(n, tag, c, is)
			}
		}
	}
	if c, is := enc.Get(nil, true); is || c != (api.Cap{}) {
		t.Error(c, is)
	}
}

func TestP31GetKeepsWhatIsHandedIn(t *testing.T) {
	b := append(told(api.Cap{At: 7, Perms: 11}), 99)
	before := bytes.Clone(b)
	enc.Get(b[:16], true)
	if !bytes.Equal(b, before) {
		t.Error(b)
	}
}

func TestP31GetTags(t *testing.T) {
	c := api.Cap{Tag: true, Base: 16, Top: 48, At: 20, Perms: 11, Type: 2}
	for i := range 16 {
		for bit := range 8 {
			b := told(c)
			b[i] ^= 1 << bit
			want := c
			switch {
			case i < 4:
				want.At ^= 1 << bit << (8 * (3 - i))
			case i < 8:
				want.Base ^= 1 << bit << (8 * (7 - i))
			case i < 12:
				want.Top ^= 1 << bit << (8 * (11 - i))
			case i == 12 || i == 14 || i == 13 && bit == 7:
				want.Tag = false
			case i == 13:
				want.Perms ^= 1 << bit
			case i == 15:
				want.Type ^= 1 << bit
			}
			want.Tag = want.Tag && want.Base <= want.Top && want.Top <= maxMem
			if got, is := enc.Get(b, true); got != want || !is {
				t.Error(i, bit, got, want)
			}
			want.Tag = false
			if got, is := enc.Get(b, false); got != want || !is {
				t.Error(i, bit, got, want)
			}
		}
	}
}

func TestP32ThereAndBack(t *testing.T) {
	for _, c := range rights() {
		if got, is := enc.Get(enc.Put(c), c.Tag); got != c || !is {
			t.Fatal(c, got)
		}
	}
}

func TestP32AnyBytes(t *testing.T) {
	r := rand.New(rand.NewSource(3))
	for range 20000 {
		b := make([]byte, 16)
		r.Read(b)
		for i := range b {
			if r.Intn(2) == 0 {
				b[i] = 0
			}
		}
		c, is := enc.Get(b, r.Intn(2) == 0)
		again := bytes.Clone(b)
		again[12], again[13], again[14] = 0, b[13]&127, 0
		if !is || !bytes.Equal(enc.Put(c), again) {
			t.Fatal(b, c)
		}
	}
}

func TestP33WhatIsGotIsRightAndNotTaggedWithoutTag(t *testing.T) {
	r := rand.New(rand.NewSource(4))
	tagged := 0
	for range 20000 {
		b := make([]byte, 16)
		for i := range b {
			b[i] = byte([]int{0, 0, 0, 1, 255, r.Intn(256)}[r.Intn(6)])
		}
		c, is := enc.Get(b, true)
		if !is || !cap.Right(c) {
			t.Fatal(b, c)
		}
		if c.Tag {
			tagged++
		}
		if d, is := enc.Get(b, false); !is || d.Tag || !cap.Right(d) {
			t.Fatal(b, d)
		}
	}
	if tagged == 0 {
		t.Error("none was tagged")
	}
}

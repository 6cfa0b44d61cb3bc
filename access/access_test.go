package access_test

import (
	"math"
	"math/rand"
	"testing"

	"seizin/access"
	"seizin/api"
	"seizin/cap"
)

const (
	maxAddr = 1<<32 - 1
	maxMem  = 1 << 24
)

// far are offsets, and steps, at which an answer may turn.
var far = []int{
	math.MinInt, -maxAddr, -65537, -65536, -65535, -64, -33, -32, -31, -17, -16, -5, -4, -3, -1, 0, 1, 3, 4, 5, 8, 12, 15, 16, 17, 28, 29,
	31, 32, 33, 48, 64, 65535, 65536, 65537, maxAddr, 1 << 40, math.MaxInt,
}

// pool is capabilities of all kinds, right and wrong.
func pool() []api.Cap {
	var l []api.Cap
	for _, tag := range []bool{false, true} {
		for _, sealed := range []int{0, 1, 255, 256} {
			for _, perms := range []int{0, 1, 2, 4, 8, 16, 9, 18, 127, 128} {
				for _, at := range []int{-1, 0, 4, 16, 18, 32, 48, 65600, maxAddr} {
					for _, span := range [][2]int{{0, 0}, {0, 300}, {16, 48}, {17, 64}, {48, 16}, {64, 140000}, {0, maxMem + 1}} {
						l = append(l, api.Cap{Tag: tag, Base: span[0], Top: span[1], At: at, Perms: perms, Type: sealed})
					}
				}
			}
		}
	}
	return l
}

// has: are all of q in p, bit by bit?
func has(p int, q int) bool {
	for bit := 1; bit < 128; bit *= 2 {
		if q/bit%2 == 1 && p/bit%2 == 0 {
			return false
		}
	}
	return true
}

// check is what Check is to answer, of an offset and a number that do not go round.
func check(c api.Cap, need int, off int, n int) (int, api.Errno) {
	if !cap.Right(c) || need < 0 || need > 127 || n < 1 || n > 16 {
		return 0, 1
	}
	if !c.Tag {
		return 0, 41
	}
	if c.Type != 0 {
		return 0, 42
	}
	if !has(c.Perms, need) {
		return 0, 44
	}
	if off < -65536 || off > 65536 {
		return 0, 43
	}
	if from := c.At + off; from < 0 || from < c.Base || from+n > c.Top {
		return 0, 43
	}
	return c.At + off, 0
}

// multiple is what is to be answered where an address has to be a multiple.
func multiple(at int, err api.Errno, unit int) (int, api.Errno) {
	if err == 0 && at%unit != 0 {
		return 0, 51
	}
	return at, err
}

func TestP51Check(t *testing.T) {
	for _, c := range pool() {
		for _, off := range far {
			for _, n := range []int{math.MinInt, -1, 0, 1, 2, 4, 15, 16, 17, math.MaxInt} {
				for _, need := range []int{-1, 0, 1, 9, 127, 128} {
					want, wrong := check(c, need, off, n)
					if got, err := access.Check(c, need, off, n); got != want || err != wrong {
						t.Fatal(c, need, off, n, got, err)
					}
				}
			}
		}
	}
}

func TestP51CheckOfEachPermission(t *testing.T) {
	for p := -1; p <= 128; p++ {
		for need := -1; need <= 128; need++ {
			c := api.Cap{Tag: true, Base: 16, Top: 48, At: 20, Perms: p}
			want, wrong := check(c, need, 4, 8)
			if got, err := access.Check(c, need, 4, 8); got != want || err != wrong {
				t.Fatal(p, need, got, err)
			}
		}
	}
}

func TestP51LoadAndStore(t *testing.T) {
	for _, c := range pool() {
		for _, off := range far {
			for _, n := range []int{math.MinInt, 0, 1, 4, 16, 17, math.MaxInt} {
				want, wrong := check(c, 1, off, n)
				if got, err := access.Load(c, off, n); got != want || err != wrong {
					t.Fatal("load", c, off, n, got, err)
				}
				want, wrong = check(c, 2, off, n)
				if got, err := access.Store(c, off, n); got != want || err != wrong {
					t.Fatal("store", c, off, n, got, err)
				}
			}
		}
	}
	if _, err := access.Load(api.Cap{Tag: true, Top: 16, Perms: 126}, 0, 1); err != 44 {
		t.Error(err)
	}
}

func TestP51Fetch(t *testing.T) {
	for _, c := range pool() {
		for at := 0; at < 70; at++ {
			c.At = at
			at, err := check(c, 4, 0, 4)
			want, wrong := multiple(at, err, 4)
			if got, err := access.Fetch(c); got != want || err != wrong {
				t.Fatal(c, got, err)
			}
		}
	}
}

func TestP51LoadCapAndStoreCap(t *testing.T) {
	for _, c := range pool() {
		for _, off := range far {
			at, err := check(c, 9, off, 16)
			want, wrong := multiple(at, err, 16)
			if got, err := access.LoadCap(c, off); got != want || err != wrong {
				t.Fatal("load", c, off, got, err)
			}
			at, err = check(c, 18, off, 16)
			want, wrong = multiple(at, err, 16)
			if got, err := access.StoreCap(c, off); got != want || err != wrong {
				t.Fatal("store", c, off, got, err)
			}
		}
	}
}

func TestP51CapsOfEachPermission(t *testing.T) {
	for p := 0; p <= 127; p++ {
		for off := 0; off <= 16; off++ {
			c := api.Cap{Tag: true, Top: 64, At: 16, Perms: p}
			at, err := check(c, 9, off, 16)
			want, wrong := multiple(at, err, 16)
			if got, err := access.LoadCap(c, off); got != want || err != wrong {
				t.Fatal("load", p, off, got, err)
			}
			at, err = check(c, 18, off, 16)
			want, wrong = multiple(at, err, 16)
			if got, err := access.StoreCap(c, off); got != want || err != wrong {
				t.Fatal("store", p, off, got, err)
			}
			at, err = check(c, 4, 0, 4)
			if got, wrong := access.Fetch(c); got != at || wrong != err {
				t.Fatal("fetch", p, got, wrong)
			}
		}
	}
}

func TestP51Step(t *testing.T) {
	for _, c := range pool() {
		for _, n := range far {
			want := c
			right := cap.Right(c) && c.Tag && c.Type == 0 && n >= -65536 && n <= 65536 && c.At+n >= c.Base && c.At+n <= c.Top
			if right {
				want.At += n
			} else {
				want = api.Cap{}
			}
			if got, is := access.Step(c, n); got != want || is != right {
				t.Fatal(c, n, got, is)
			}
		}
	}
	c := api.Cap{Tag: true, Base: 16, Top: 48, At: 100}
	for n, right := range map[int]bool{-85: false, -84: true, -52: true, -51: false} {
		if _, is := access.Step(c, n); is != right {
			t.Error(n)
		}
	}
}

// ask is one way of using a capability, and what it asks for.
type ask struct {
	at   int
	err  api.Errno
	n    int
	need int
}

// asks are all ways of using one.
func asks(c api.Cap, off int, n int) []ask {
	var l []ask
	at, err := access.Load(c, off, n)
	l = append(l, ask{at, err, n, 1})
	at, err = access.Store(c, off, n)
	l = append(l, ask{at, err, n, 2})
	at, err = access.Fetch(c)
	l = append(l, ask{at, err, 4, 4})
	at, err = access.LoadCap(c, off)
	l = append(l, ask{at, err, 16, 9})
	at, err = access.StoreCap(c, off)
	l = append(l, ask{at, err, 16, 18})
	at, err = access.Check(c, 96, off, n)
	return append(l, ask{at, err, n, 96})
}

func TestP52Within(t *testing.T) {
	fine := 0
	for _, c := range pool() {
		for _, off := range far {
			for _, n := range []int{1, 4, 16} {
				for _, a := range asks(c, off, n) {
					if a.err != 0 {
						continue
					}
					fine++
					if !has(c.Perms, a.need) || !c.Tag || c.Type != 0 {
						t.Fatal(c, off, n, a)
					}
					for at := a.at; at < a.at+a.n; at++ {
						if at < c.Base || at >= c.Top {
							t.Fatal(c, off, n, a)
						}
					}
				}
			}
		}
	}
	if fine == 0 {
		t.Error("nothing was fine")
	}
}

func TestP53Less(t *testing.T) {
	r := rand.New(rand.NewSource(5))
	fine := 0
	for range 60000 {
		d := api.Cap{Tag: true, Base: r.Intn(40), Perms: r.Intn(128), Type: r.Intn(2)}
		d.Top = d.Base + r.Intn(80)
		c := api.Cap{Tag: true, Base: d.Base + r.Intn(9), Perms: d.Perms & r.Intn(128), At: r.Intn(80)}
		c.Top = c.Base + r.Intn(60)
		if !cap.Under(c, d) {
			continue
		}
		d.At, d.Type = c.At, 0
		off, n := r.Intn(64)-32, 1+r.Intn(16)
		more := asks(d, off, n)
		for i, a := range asks(c, off, n) {
			if a.err == 0 && a != more[i] {
				t.Fatal(c, d, off, n, a, more[i])
			}
			if a.err == 0 {
				fine++
			}
		}
		if _, is := access.Step(c, off); is {
			if _, more := access.Step(d, off); !more {
				t.Fatal(c, d, off)
			}
		}
	}
	if fine == 0 {
		t.Error("nothing was fine")
	}
}

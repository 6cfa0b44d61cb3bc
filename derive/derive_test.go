package derive_test

import (
	"math"
	"testing"

	"seizin/api"
	"seizin/cap"
	"seizin/derive"
)

const (
	maxAddr = 1<<32 - 1
	maxMem  = 1 << 24
)

// numbers are what is handed in beside capabilities.
var numbers = []int{
	math.MinInt, math.MinInt + 20, -maxAddr - 2, -1, 0, 1, 2, 10, 11, 12, 15, 16, 17, 27, 28, 29, 31, 32, 33, 64, 100, 127, 128,
	maxMem, maxAddr, maxAddr + 1, maxAddr + 6, 1 << 40, math.MaxInt - 20, math.MaxInt,
}

// pool is capabilities of all kinds: right, wrong, tagged, sealed, and such as stand beyond what they span.
func pool() []api.Cap {
	var l []api.Cap
	for _, tag := range []bool{false, true} {
		for _, sealed := range []int{0, 1, 2, 20, 255} {
			for _, perms := range []int{0, 11, api.Exec, api.Seal, api.Unseal, 127} {
				for _, at := range []int{0, 1, 2, 20, 47, 48, 255, 256, maxAddr} {
					for _, span := range [][2]int{{0, 0}, {0, 300}, {16, 48}, {20, 21}, {20, 20}, {250, maxMem}} {
						l = append(l, api.Cap{Tag: tag, Base: span[0], Top: span[1], At: at, Perms: perms, Type: sealed})
					}
				}
			}
		}
	}
	return append(l, wrongs()...)
}

// wrongs are ones that are not right, or are right as long as they are not tagged.
func wrongs() []api.Cap {
	var l []api.Cap
	for _, tag := range []bool{false, true} {
		for _, sealed := range []int{0, 2} {
			l = append(l,
				api.Cap{Tag: tag, Base: 48, Top: 16, At: 20, Perms: 127, Type: sealed},
				api.Cap{Tag: tag, Top: maxMem + 1, At: 20, Perms: 127, Type: sealed},
				api.Cap{Tag: tag, Base: -1, Top: 300, At: 20, Perms: 127, Type: sealed},
				api.Cap{Tag: tag, Top: 300, At: -1, Perms: 127, Type: sealed},
				api.Cap{Tag: tag, Top: 300, At: maxAddr + 1, Perms: 127, Type: sealed},
				api.Cap{Tag: tag, Top: 300, At: 20, Perms: 128, Type: sealed},
				api.Cap{Tag: tag, Top: 300, At: 20, Perms: 127, Type: 256},
				api.Cap{Tag: tag, Top: 300, At: 20, Perms: 127, Type: -1},
				api.Cap{Tag: tag, Base: math.MinInt, Top: math.MaxInt, At: math.MaxInt, Perms: math.MaxInt, Type: sealed},
			)
		}
	}
	return l
}

// thin is every so many-th one.
func thin(l []api.Cap, n int) []api.Cap {
	var few []api.Cap
	for i := 0; i < len(l); i += n {
		few = append(few, l[i])
	}
	return append(few, wrongs()...)
}

// fault is an error, and whether it applies.
type fault struct {
	is  bool
	err api.Errno
}

// unused are what may be wrong with using one.
func unused(c api.Cap) []fault {
	return []fault{{!cap.Right(c), 1}, {!c.Tag, 41}, {c.Type != 0, 42}}
}

// noAuthority are what may be wrong with an authority.
func noAuthority(by api.Cap, bit int) []fault {
	return append(unused(by),
		fault{by.Perms/bit%2 == 0, 44},
		fault{by.At < by.Base || by.At >= by.Top, 43},
		fault{by.At < 2 || by.At > 255, 45})
}

// hold holds an answer against the first fault that applies, or against what is wanted.
func hold(t *testing.T, what string, got api.Cap, err api.Errno, want api.Cap, faults ...fault) {
	t.Helper()
	for _, f := range faults {
		if f.is {
			if err != f.err || got != (api.Cap{}) {
				t.Fatal(what, got, err, "not", f.err)
			}
			return
		}
	}
	if err != api.OK || got != want {
		t.Fatal(what, got, err, "not", want)
	}
}

func TestP41Bounds(t *testing.T) {
	for _, c := range pool() {
		for _, n := range numbers {
			want := c
			want.Base, want.Top = c.At, c.At+n
			got, err := derive.Bounds(c, n)
			out := n < 0 || c.At < c.Base || n > c.Top || c.At > c.Top-n
			hold(t, "bounds", got, err, want, append(unused(c), fault{out, 43})...)
		}
	}
	c := api.Cap{Tag: true, Base: 16, Top: 48, At: 20, Perms: 11}
	if got, err := derive.Bounds(c, 28); err != 0 || got != (api.Cap{Tag: true, Base: 20, Top: 48, At: 20, Perms: 11}) {
		t.Error(got, err)
	}
	if got, err := derive.Bounds(c, 29); err != 43 || got != (api.Cap{}) {
		t.Error(got, err)
	}
	if _, err := derive.Bounds(derive.Clear(c), 1); err != 41 {
		t.Error(err)
	}
}

func TestP41Perms(t *testing.T) {
	for _, c := range pool() {
		for p := -2; p < 131; p++ {
			want := c
			want.Perms = 0
			for bit := 1; bit < 128; bit *= 2 {
				if p >= 0 && c.Perms/bit%2 == 1 && p/bit%2 == 1 {
					want.Perms += bit
				}
			}
			got, err := derive.Perms(c, p)
			hold(t, "perms", got, err, want, append(unused(c), fault{p < 0 || p > 127, 1})...)
		}
	}
	for _, n := range numbers {
		if _, err := derive.Perms(api.Cap{Tag: true, Top: 1}, n); (err == 0) != (0 <= n && n <= 127) {
			t.Error(n, err)
		}
	}
}

func TestP41Move(t *testing.T) {
	for _, c := range pool() {
		for _, n := range numbers {
			want := c
			want.At = n % (1 << 32)
			if want.At < 0 {
				want.At += 1 << 32
			}
			got, err := derive.Move(c, n)
			hold(t, "move", got, err, want, fault{!cap.Right(c), 1}, fault{c.Tag && c.Type != 0, 42})
		}
	}
}

func TestP41Clear(t *testing.T) {
	for _, c := range pool() {
		want := c
		want.Tag = false
		if got := derive.Clear(c); got != want {
			t.Error(c, got)
		}
	}
}

func TestP41Seal(t *testing.T) {
	all, few := pool(), thin(pool(), 37)
	check := func(c api.Cap, by api.Cap) {
		want := c
		want.Type = by.At
		got, err := derive.Seal(c, by)
		hold(t, "seal", got, err, want, append(unused(c), noAuthority(by, 32)...)...)
	}
	for _, c := range few {
		for _, d := range all {
			check(c, d)
			check(d, c)
		}
	}
}

func TestP41Unseal(t *testing.T) {
	all, few := pool(), thin(pool(), 37)
	check := func(c api.Cap, by api.Cap) {
		want := c
		want.Type = 0
		faults := append([]fault{{!cap.Right(c), 1}, {!c.Tag, 41}, {c.Type == 0, 42}}, noAuthority(by, 64)...)
		got, err := derive.Unseal(c, by)
		hold(t, "unseal", got, err, want, append(faults, fault{by.At != c.Type, 45})...)
	}
	for _, c := range few {
		for _, d := range all {
			check(c, d)
			check(d, c)
		}
	}
}

func TestP41AuthorityOverEachType(t *testing.T) {
	c := api.Cap{Tag: true, Base: 16, Top: 48, At: 20, Perms: 11}
	for at := 0; at < 300; at++ {
		by := api.Cap{Tag: true, Top: 400, At: at, Perms: api.Seal | api.Unseal}
		right := at >= 2 && at <= 255
		sealed, err := derive.Seal(c, by)
		if (err == 0) != right || !right && err != 45 {
			t.Error(at, err)
		}
		if right {
			if back, err := derive.Unseal(sealed, by); err != 0 || back != c {
				t.Error(at, back, err)
			}
		}
	}
	entry := c
	entry.Type = api.Entry
	if _, err := derive.Unseal(entry, api.Cap{Tag: true, Top: 400, At: 1, Perms: 127}); err != 45 {
		t.Error(err)
	}
}

func TestP41Enter(t *testing.T) {
	for _, c := range pool() {
		want := c
		want.Type = 1
		got, err := derive.Enter(c)
		hold(t, "enter", got, err, want, append(unused(c), fault{c.Perms/4%2 == 0, 44})...)
	}
}

func TestP41Build(t *testing.T) {
	all, few := pool(), thin(pool(), 37)
	check := func(c api.Cap, by api.Cap) {
		want := c
		want.Tag = true
		lacks := false
		for bit := 1; bit < 128; bit *= 2 {
			lacks = lacks || c.Perms/bit%2 == 1 && by.Perms/bit%2 == 0
		}
		out := c.Base < by.Base || c.Base > by.Top || c.Top < by.Base || c.Top > by.Top || c.Base > c.Top
		faults := append([]fault{{!cap.Right(c), 1}}, unused(by)...)
		got, err := derive.Build(c, by)
		hold(t, "build", got, err, want, append(faults, fault{c.Type != 0, 42}, fault{lacks, 44}, fault{out, 43})...)
	}
	for _, c := range few {
		for _, d := range all {
			check(c, d)
			check(d, c)
		}
	}
}

// tries are all that is made of two, with a number.
func tries(c api.Cap, by api.Cap, n int) []api.Cap {
	var l []api.Cap
	add := func(made api.Cap, err api.Errno) {
		if err == api.OK {
			l = append(l, made)
		}
	}
	add(derive.Bounds(c, n))
	add(derive.Perms(c, n))
	add(derive.Move(c, n))
	add(derive.Clear(c), api.OK)
	add(derive.Seal(c, by))
	add(derive.Unseal(c, by))
	add(derive.Enter(c))
	return l
}

func TestP42NeverMore(t *testing.T) {
	many := 0
	for _, c := range thin(pool(), 11) {
		for _, by := range thin(pool(), 53) {
			for _, n := range []int{-1, 0, 1, 11, 28, 127, maxAddr} {
				for _, made := range tries(c, by, n) {
					if cap.Right(c) && !cap.Right(made) {
						t.Fatal(c, by, n, made)
					}
					if made.Tag && (!c.Tag || !cap.Under(made, c)) {
						t.Fatal(c, by, n, made)
					}
					many++
				}
			}
			if made, err := derive.Build(c, by); err == api.OK && (!cap.Right(made) || !made.Tag || !cap.Under(made, by)) {
				t.Fatal(c, by, made)
			}
		}
	}
	if many == 0 {
		t.Error("nothing was made")
	}
}

func TestP43Back(t *testing.T) {
	back := 0
	for _, c := range thin(pool(), 7) {
		for _, by := range pool() {
			sealed, err := derive.Seal(c, by)
			if err != api.OK {
				continue
			}
			opener := api.Cap{Tag: true, Base: sealed.Type, Top: sealed.Type + 1, At: sealed.Type, Perms: api.Unseal}
			got, err := derive.Unseal(sealed, opener)
			if err != api.OK || got != c {
				t.Fatal(c, by, got, err)
			}
			opener.Perms = api.AllPerms &^ api.Unseal
			if _, err := derive.Unseal(sealed, opener); err != api.ErrPerm {
				t.Fatal(err)
			}
			back++
		}
	}
	if back == 0 {
		t.Error("nothing was sealed")
	}
}

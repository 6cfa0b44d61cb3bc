package perm_test

import (
	"math"
	"strings"
	"testing"

	"seizin/api"
	"seizin/perm"
)

// table is the permissions' letters, as the chapter lists them.
var table = []struct {
	p      int
	letter string
}{
	{api.Read, "r"}, {api.Write, "w"}, {api.Exec, "x"}, {api.LoadCap, "l"}, {api.StoreCap, "s"}, {api.Seal, "e"}, {api.Unseal, "u"},
}

// wrong are numbers that are no permissions.
var wrong = []int{-1, -2, -127, -128, 128, 129, 255, 256, 1 << 40, math.MaxInt, math.MinInt}

// written is a text, made out of the table alone.
func written(p int) string {
	text := ""
	for _, row := range table {
		if p/row.p%2 == 1 {
			text += row.letter
		}
	}
	if text == "" {
		return "-"
	}
	return text
}

func TestP11Right(t *testing.T) {
	for p := 0; p <= api.AllPerms; p++ {
		if !perm.Right(p) {
			t.Error(p)
		}
	}
	for _, p := range wrong {
		if perm.Right(p) {
			t.Error(p)
		}
	}
}

func TestP11Of(t *testing.T) {
	for _, c := range []struct {
		l    []int
		want int
	}{
		{nil, 0}, {[]int{0}, 0}, {[]int{1, 2, 4}, 7}, {[]int{3, 3}, 3}, {[]int{127, 1}, 127}, {[]int{64, 32, 16, 8, 4, 2, 1}, 127},
		{[]int{1, 200, 8, -4}, 9}, {[]int{128}, 0}, {[]int{-1}, 0}, {[]int{math.MaxInt, 5, math.MinInt}, 5},
	} {
		if got := perm.Of(c.l...); got != c.want {
			t.Error(c.l, got)
		}
	}
}

func TestP11OfKeepsWhatIsHandedIn(t *testing.T) {
	l := []int{1, 200, 8, -4, 99}
	perm.Of(l[:4]...)
	if l[0] != 1 || l[1] != 200 || l[2] != 8 || l[3] != -4 || l[4] != 99 {
		t.Error(l)
	}
}

func TestP11Has(t *testing.T) {
	for p := 0; p <= api.AllPerms; p++ {
		for q := 0; q <= api.AllPerms; q++ {
			want := true
			for _, row := range table {
				want = want && (q/row.p%2 == 0 || p/row.p%2 == 1)
			}
			if perm.Has(p, q) != want {
				t.Error(p, q)
			}
		}
		for _, q := range wrong {
			if perm.Has(p, q) || perm.Has(q, p) || perm.Has(q, q) {
				t.Error(p, q)
			}
		}
	}
}

func TestP11Many(t *testing.T) {
	for p := 0; p <= api.AllPerms; p++ {
		want := 0
		for _, row := range table {
			want += p / row.p % 2
		}
		if perm.Many(p) != want {
			t.Error(p)
		}
	}
	for _, p := range wrong {
		if perm.Many(p) != 0 {
			t.Error(p)
		}
	}
}

func TestP11Text(t *testing.T) {
	for p := 0; p <= api.AllPerms; p++ {
		if got := perm.Text(p); got != written(p) {
			t.Error(p, got)
		}
		if got, is := perm.Parse(written(p)); got != p || !is {
			t.Error(written(p), got, is)
		}
	}
	if perm.Text(11) != "rwl" || perm.Text(0) != "-" || perm.Text(127) != "rwxlseu" {
		t.Error("examples")
	}
	for _, p := range wrong {
		if got := perm.Text(p); got != "" {
			t.Error(p, got)
		}
	}
}

func TestP11ParseRefusesAllOtherTexts(t *testing.T) {
	texts := []string{
		"", " ", "--", "r-", "-r", "wr", "rr", "R", "rx ", " r", "rwxlseur", "rwxlseuu", "uesl", "z", "0", "11", "r\x00", "r\n",
		"\xff", "r\xff", "é", "\ufffd", "r\ufffd", strings.Repeat("r", 1000),
	}
	for _, s := range texts {
		if p, is := perm.Parse(s); p != 0 || is {
			t.Errorf("%q: %d %v", s, p, is)
		}
	}
}

func TestP11ParseOfAllShortTexts(t *testing.T) {
	right := map[string]int{}
	for p := 0; p <= api.AllPerms; p++ {
		right[written(p)] = p
	}
	texts := []string{""}
	for range 4 {
		var longer []string
		for _, s := range texts {
			for _, letter := range "rwxlseu-Q" {
				longer = append(longer, s+string(letter))
			}
		}
		for _, s := range longer {
			want, is := right[s]
			if got, ok := perm.Parse(s); got != want || ok != is {
				t.Error(s, got, ok)
			}
		}
		texts = longer
	}
}

func TestP12HasIsAnOrder(t *testing.T) {
	for p := 0; p <= api.AllPerms; p++ {
		if !perm.Has(p, p) {
			t.Error(p)
		}
		for q := 0; q <= api.AllPerms; q++ {
			if p != q && perm.Has(p, q) && perm.Has(q, p) {
				t.Error(p, q)
			}
			for r := 0; r <= api.AllPerms; r++ {
				if perm.Has(p, q) && perm.Has(q, r) && !perm.Has(p, r) {
					t.Error(p, q, r)
				}
			}
		}
	}
}

func TestP12OfIsTheLeastThatHasAll(t *testing.T) {
	for p := 0; p <= api.AllPerms; p++ {
		for q := 0; q <= api.AllPerms; q++ {
			both := perm.Of(p, q)
			if !perm.Has(both, p) || !perm.Has(both, q) {
				t.Error(p, q, both)
			}
			for r := 0; r <= api.AllPerms; r++ {
				if perm.Has(r, p) && perm.Has(r, q) && !perm.Has(r, both) {
					t.Error(p, q, r)
				}
			}
		}
	}
}

func TestP12TextsAreUnlike(t *testing.T) {
	seen := map[string]bool{}
	for p := 0; p <= api.AllPerms; p++ {
		if seen[perm.Text(p)] {
			t.Error(p)
		}
		seen[perm.Text(p)] = true
	}
}

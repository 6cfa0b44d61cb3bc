package image_test

import (
	"bytes"
	"math"
	"math/rand"
	"slices"
	"testing"

	"seizin/api"
	"seizin/cap"
	"seizin/clos"
	"seizin/image"
)

// program is so many instructions, each of which has the compartment write what it has.
func program(many int) []byte {
	var b []byte
	for i := range many {
		b = append(b, api.Movi, byte(i%8), byte(i>>8), byte(i))
	}
	return b
}

// example is a right image with something of everything.
func example() api.Image {
	return api.Image{
		Heap: 5, Full: 300,
		Comps: []api.Comp{{Code: program(3), Data: 1}, {Code: program(64), Data: 2}, {Code: program(65), Data: 8}},
		Links: []api.Link{{From: 0, To: 1, At: 63}, {From: 2, To: 0, At: 0}, {From: 0, To: 2, At: 64}, {From: 0, To: 1, At: 1}},
		Shares: []api.Share{
			{Read: 7, Write: 2}, {Read: 5, Write: 0}, {Read: 0, Write: 0}, {Read: 4, Write: 4},
		},
	}
}

// least is the least right image.
func least() api.Image {
	return api.Image{Heap: 1, Full: 1, Comps: []api.Comp{{Code: []byte{0, 0, 0, 0}, Data: 1}}}
}

// greatest is the greatest right image.
func greatest() api.Image {
	x := api.Image{Strict: true, Heap: 64, Full: 4096}
	for i := range 4 {
		x.Comps = append(x.Comps, api.Comp{Code: program(1024), Data: 8})
		x.Shares = append(x.Shares, api.Share{Read: 15, Write: 15})
		for range 4 {
			x.Links = append(x.Links, api.Link{From: i, To: (i + 1) % 4, At: 1023})
		}
	}
	return x
}

// links are so many of a kind.
func links(many int, l api.Link) []api.Link {
	return slices.Repeat([]api.Link{l}, many)
}

// change is something that is changed in the example, and whether it is right still.
type change struct {
	what  string
	right bool
	do    func(x *api.Image)
}

// changes are such of all parts.
func changes() []change {
	l := []change{
		{"nothing", true, func(x *api.Image) {}},
		{"strict", true, func(x *api.Image) { x.Strict = true }},
		{"no comps", false, func(x *api.Image) { x.Comps, x.Links, x.Shares = nil, nil, nil }},
		{"one comp", true, func(x *api.Image) { x.Comps, x.Links, x.Shares = x.Comps[:1], nil, nil }},
		{"four comps", true, func(x *api.Image) { x.Comps = append(x.Comps, x.Comps[0]) }},
		{"five comps", false, func(x *api.Image) { x.Comps = append(x.Comps, x.Comps[0], x.Comps[0]) }},
		{"eight from one", true, func(x *api.Image) { x.Links = links(8, x.Links[0]) }},
		{"nine from one", false, func(x *api.Image) { x.Links = links(9, x.Links[0]) }},
		{"eight and eight", true, func(x *api.Image) { x.Links = append(links(8, x.Links[0]), links(8, x.Links[1])...) }},
		{"nine, and others", false, func(x *api.Image) { x.Links = append(links(3, x.Links[1]), links(9, x.Links[0])...) }},
		{"seventeen links", false, func(x *api.Image) {
			x.Links = append(append(links(6, x.Links[0]), links(6, x.Links[1])...), links(5, api.Link{From: 1, To: 0})...)
		}},
		{"sixteen links", true, func(x *api.Image) {
			x.Links = append(append(links(6, x.Links[0]), links(6, x.Links[1])...), links(4, api.Link{From: 1, To: 0})...)
		}},
		{"no links", true, func(x *api.Image) { x.Links = []api.Link{} }},
		{"no shares", true, func(x *api.Image) { x.Shares = []api.Share{} }},
		{"five shares", false, func(x *api.Image) { x.Shares = append(x.Shares, api.Share{}) }},
		{"addr", true, func(x *api.Image) { copy(x.Comps[1].Code[4:], []byte{api.Addr, 1, 2, 0}) }},
		{"addr, strict", false, func(x *api.Image) { x.Strict, x.Comps[2].Code = true, append(program(70), api.Addr, 1, 2, 0) }},
		{"from itself", false, func(x *api.Image) { x.Links[0] = api.Link{From: 1, To: 1} }},
	}
	for _, n := range []int{math.MinInt, -1, 0, 1, 64, 65, 256, 320, 4096, 4097, math.MaxInt} {
		l = append(l,
			change{"heap", n >= 1 && n <= 64, func(x *api.Image) { x.Heap = n }},
			change{"full", n >= 1 && n <= 4096, func(x *api.Image) { x.Full = n }},
			change{"data", n == 1, func(x *api.Image) { x.Comps[0].Data = n }})
	}
	for n, right := range map[int]bool{-1: false, 0: false, 1: true, 8: true, 9: false, 257: false} {
		l = append(l, change{"data", right, func(x *api.Image) { x.Comps[2].Data = n }})
	}
	for _, n := range []int{math.MinInt, -1, 0, 1, 2, 3, 256, math.MaxInt} {
		l = append(l,
			change{"from", n == 0 || n == 2, func(x *api.Image) { x.Links[0] = api.Link{From: n, To: 1} }},
			change{"to", n == 0 || n == 2, func(x *api.Image) { x.Links[0] = api.Link{From: 1, To: n} }})
	}
	for n, right := range map[int]bool{math.MinInt: false, -1: false, 0: true, 2: true, 3: false, 64: false, math.MaxInt: false} {
		l = append(l, change{"at", right, func(x *api.Image) { x.Links[0] = api.Link{From: 1, To: 0, At: n} }})
	}
	for n, right := range map[int]bool{63: true, 64: false} {
		l = append(l, change{"at", right, func(x *api.Image) { x.Links[0].At = n }})
	}
	for n, right := range map[int]bool{math.MinInt: false, -1: false, 0: true, 7: true, 8: false, 263: false, math.MaxInt: false} {
		l = append(l, change{"read", right, func(x *api.Image) { x.Shares[0] = api.Share{Read: n} }})
	}
	for n, right := range map[int]bool{math.MinInt: false, -1: false, 0: true, 1: true, 2: false, 3: false, 4: true, 5: true, 8: false, 9: false, 256: false, math.MaxInt: false} {
		l = append(l, change{"write", right, func(x *api.Image) { x.Shares[0] = api.Share{Read: 5, Write: n} }})
	}
	for n, right := range map[int]bool{0: false, 1: false, 3: false, 4: true, 5: false, 6: false, 4092: true, 4095: false, 4096: true, 4097: false, 4100: false} {
		l = append(l, change{"code", right, func(x *api.Image) {
			x.Comps[2].Code, x.Links = program(1200)[:n], nil
		}})
	}
	for at := range 4 {
		l = append(l, change{"no instruction", false, func(x *api.Image) { x.Comps[at%3].Code[0] = byte(30 + at) }})
	}
	return l
}

func TestP171Right(t *testing.T) {
	for _, x := range []api.Image{example(), least(), greatest()} {
		if !image.Right(x) {
			t.Error(x)
		}
	}
	for _, c := range changes() {
		x := example()
		c.do(&x)
		if image.Right(x) != c.right {
			t.Error(c.what, x.Heap, x.Full, x.Links, x.Shares)
		}
	}
	if image.Right(api.Image{}) {
		t.Error("nothing")
	}
	for _, row := range []struct {
		comps, read int
		want        bool
	}{{1, 1, true}, {1, 2, false}, {2, 3, true}, {2, 4, false}, {3, 7, true}, {4, 15, true}, {4, 16, false}} {
		x := least()
		x.Comps = slices.Repeat(x.Comps, row.comps)
		x.Shares = []api.Share{{Read: row.read}}
		if image.Right(x) != row.want {
			t.Error(row)
		}
	}
}

// told is a right one's bytes.
func told(x api.Image) []byte {
	strict := byte(0)
	if x.Strict {
		strict = 1
	}
	b := []byte{'S', 'Z', strict, byte(x.Heap), byte(x.Full / 256), byte(x.Full % 256), byte(len(x.Comps)), byte(len(x.Links)), byte(len(x.Shares))}
	for _, c := range x.Comps {
		b = append(b, byte(len(c.Code)/256), byte(len(c.Code)%256), byte(c.Data))
	}
	for _, l := range x.Links {
		b = append(b, byte(l.From), byte(l.To), byte(l.At/256), byte(l.At%256))
	}
	for _, s := range x.Shares {
		b = append(b, byte(s.Read), byte(s.Write))
	}
	for _, c := range x.Comps {
		b = append(b, c.Code...)
	}
	return b
}

// same: are two images alike, be their lists nil or not?
func same(x api.Image, y api.Image) bool {
	return x.Strict == y.Strict && x.Heap == y.Heap && x.Full == y.Full && slices.Equal(x.Links, y.Links) && slices.Equal(x.Shares, y.Shares) &&
		slices.EqualFunc(x.Comps, y.Comps, func(a api.Comp, b api.Comp) bool { return a.Data == b.Data && bytes.Equal(a.Code, b.Code) })
}

func TestP171PutAndGet(t *testing.T) {
	for _, c := range changes() {
		x := example()
		c.do(&x)
		b := image.Put(x)
		if !c.right {
			if len(b) != 0 {
				t.Error(c.what, len(b))
			}
			continue
		}
		if !bytes.Equal(b, told(x)) {
			t.Error(c.what, b)
		}
		if y, err := image.Get(b); !same(x, y) || err != api.OK {
			t.Error(c.what, err)
		}
	}
	for _, x := range []api.Image{least(), greatest()} {
		if y, err := image.Get(told(x)); !same(x, y) || err != api.OK || !bytes.Equal(image.Put(x), told(x)) {
			t.Error(err)
		}
	}
}

// refused holds that bytes are refused, by an error.
func refused(t *testing.T, what string, b []byte, want api.Errno) {
	t.Helper()
	if x, err := image.Get(b); !same(x, api.Image{}) || err != want {
		t.Error(what, err, "not", want)
	}
}

func TestP171GetOfOtherBytes(t *testing.T) {
	refused(t, "nothing", nil, 1)
	b := told(example())
	for n := range len(b) {
		refused(t, "a part", b[:n], 1)
	}
	refused(t, "more", append(bytes.Clone(b), 0), 1)
	refused(t, "more", append(bytes.Clone(b), 0, 0, 0, 0), 1)
	for at, wrong := range map[int][]byte{
		0: {'s', 0, 'Z'}, 1: {'z', 'S', 0}, 2: {2, 255, 128}, 3: {0, 65, 255}, 4: {16, 17, 255}, 6: {0, 5, 255, 2, 4}, 7: {17, 255, 3, 5}, 8: {5, 255, 3},
		9: {17, 255, 1}, 10: {0, 10, 13, 11, 16}, 11: {0, 9, 255}, 18: {1, 3, 255}, 19: {0, 3, 255}, 20: {1, 255}, 21: {64, 255},
		34: {8, 255}, 35: {8, 255, 9},
	} {
		for _, x := range wrong {
			c := bytes.Clone(b)
			c[at] = x
			refused(t, "a byte", c, 1)
		}
	}
	none := told(api.Image{Heap: 1, Full: 1})
	refused(t, "no compartment", none, 1)
	x := example()
	x.Full = 0
	refused(t, "full of nothing", told(x), 1)
	x.Full = 4097
	refused(t, "too full", told(x), 1)
}

func TestP171GetOfOtherCodes(t *testing.T) {
	x := example()
	b := told(x)
	from := len(b) - len(x.Comps[0].Code) - len(x.Comps[1].Code) - len(x.Comps[2].Code)
	for at := from; at < len(b); at += 4 {
		c := bytes.Clone(b)
		c[at] = 30
		refused(t, "no instruction", c, 151)
	}
	strict := bytes.Clone(b)
	copy(strict[from+4:], []byte{api.Addr, 1, 2, 0})
	if y, err := image.Get(strict); err != 0 || y.Strict {
		t.Error(err)
	}
	strict[2] = 1
	refused(t, "addr", strict, 151)
	strict[3] = 0
	refused(t, "addr, and no heap", strict, 1)
	wrong := bytes.Clone(b)
	wrong[from], wrong[3] = 30, 0
	refused(t, "no instruction, and no heap", wrong, 1)
	y := least()
	y.Comps[0].Code = []byte{30, 0, 0, 0, 0, 0}
	refused(t, "six bytes", told(y), 1)
	y.Comps[0].Code = []byte{30, 0, 0, 0, 0, 0, 0, 0}
	refused(t, "eight bytes", told(y), 151)
	y.Comps[0].Code = nil
	refused(t, "no bytes", told(y), 1)
	y.Comps[0].Code = program(1025)
	refused(t, "too many", told(y), 1)
}

func TestP171GetIsNewMemory(t *testing.T) {
	b := told(example())
	before := bytes.Clone(b)
	x, _ := image.Get(b)
	if !bytes.Equal(b, before) {
		t.Error("what was handed in was changed")
	}
	clear(b)
	if !same(x, example()) {
		t.Error("what was handed in was kept")
	}
	want := bytes.Clone(x.Comps[1].Code)
	_ = append(x.Comps[0].Code, 9, 9, 9, 9)
	if !bytes.Equal(x.Comps[1].Code, want) {
		t.Error("codes are shared")
	}
	y := example()
	c := image.Put(y)
	clear(c)
	if !same(y, example()) {
		t.Error("put")
	}
}

func TestP171Where(t *testing.T) {
	w := image.Where(example())
	want := api.Layout{
		Code:   [][2]int{{256, 268}, {2048, 2304}, {4096, 4356}},
		Data:   [][2]int{{512, 768}, {2304, 2816}, {4608, 6656}},
		Heap:   [][2]int{{768, 2048}, {2816, 4096}, {6656, 7936}},
		Shares: []int{7936, 8192, 8448, 8704},
		Pages:  35,
	}
	if !sameLayout(w, want) {
		t.Error(w)
	}
	if w := image.Where(least()); !sameLayout(w, api.Layout{Code: [][2]int{{256, 260}}, Data: [][2]int{{512, 768}}, Heap: [][2]int{{768, 1024}}, Pages: 4}) {
		t.Error(w)
	}
	if w := image.Where(greatest()); w.Pages != 1+4*(16+8+64)+4 {
		t.Error(w)
	}
	for _, c := range changes() {
		x := example()
		c.do(&x)
		if w := image.Where(x); (w.Pages != 0) != c.right || !c.right && !sameLayout(w, api.Layout{}) {
			t.Error(c.what, w)
		}
	}
}

// sameLayout: are two alike, be their lists nil or not?
func sameLayout(a api.Layout, b api.Layout) bool {
	return slices.Equal(a.Code, b.Code) && slices.Equal(a.Data, b.Data) && slices.Equal(a.Heap, b.Heap) && slices.Equal(a.Shares, b.Shares) && a.Pages == b.Pages
}

func TestP171Grants(t *testing.T) {
	x := example()
	for comp, want := range [][]api.Cap{
		{
			{Tag: true, Base: 256, Top: 268, At: 256, Perms: 5},
			{Tag: true, Base: 512, Top: 768, At: 512, Perms: 27},
			{Tag: true, Base: 16, Top: 17, At: 16, Perms: 96},
			{Tag: true, Base: 7936, Top: 8192, At: 7936, Perms: 1},
			{Tag: true, Base: 8192, Top: 8448, At: 8192, Perms: 1},
		}, {
			{Tag: true, Base: 2048, Top: 2304, At: 2048, Perms: 5},
			{Tag: true, Base: 2304, Top: 2816, At: 2304, Perms: 27},
			{Tag: true, Base: 17, Top: 18, At: 17, Perms: 96},
			{Tag: true, Base: 7936, Top: 8192, At: 7936, Perms: 3},
		}, {
			{Tag: true, Base: 4096, Top: 4356, At: 4096, Perms: 5},
			{Tag: true, Base: 4608, Top: 6656, At: 4608, Perms: 27},
			{Tag: true, Base: 18, Top: 19, At: 18, Perms: 96},
			{Tag: true, Base: 7936, Top: 8192, At: 7936, Perms: 1},
			{Tag: true, Base: 8192, Top: 8448, At: 8192, Perms: 1},
			{Tag: true, Base: 8704, Top: 8960, At: 8704, Perms: 3},
		},
	} {
		if got := image.Grants(x, comp); !slices.Equal(got, want) {
			t.Error(comp, got)
		}
	}
}

func TestP171Pairs(t *testing.T) {
	x := example()
	pair := func(code [2]int, at int, data [2]int, kind int) [2]api.Cap {
		return [2]api.Cap{
			{Tag: true, Base: code[0], Top: code[1], At: at, Perms: 5, Type: kind},
			{Tag: true, Base: data[0], Top: data[1], At: data[0], Perms: 27, Type: kind},
		}
	}
	for comp, want := range [][][2]api.Cap{
		{
			pair([2]int{2048, 2304}, 2048+252, [2]int{2304, 2816}, 3),
			pair([2]int{4096, 4356}, 4096+256, [2]int{4608, 6656}, 4),
			pair([2]int{2048, 2304}, 2048+4, [2]int{2304, 2816}, 3),
		},
		nil,
		{pair([2]int{256, 268}, 256, [2]int{512, 768}, 2)},
	} {
		if got := image.Pairs(x, comp); !slices.Equal(got, want) {
			t.Error(comp, got)
		}
	}
}

func TestP171OfNone(t *testing.T) {
	for _, comp := range []int{math.MinInt, -1, 3, 4, math.MaxInt} {
		if len(image.Grants(example(), comp)) != 0 || len(image.Pairs(example(), comp)) != 0 {
			t.Error(comp)
		}
	}
	for _, c := range changes() {
		x := example()
		c.do(&x)
		if got := image.Grants(x, 0); (len(got) != 0) != c.right {
			t.Error(c.what, got)
		}
		if got := image.Pairs(x, 2); !c.right && len(got) != 0 {
			t.Error(c.what, got)
		}
	}
}

// some is any right image.
func some(r *rand.Rand) api.Image {
	x := api.Image{Strict: r.Intn(2) == 0, Heap: 1 + r.Intn(64), Full: 1 + r.Intn(4096)}
	for range 1 + r.Intn(4) {
		x.Comps = append(x.Comps, api.Comp{Code: program(1 + r.Intn(200)), Data: 1 + r.Intn(8)})
	}
	for range r.Intn(9) {
		if l := (api.Link{From: r.Intn(len(x.Comps)), To: r.Intn(len(x.Comps))}); l.From != l.To {
			l.At = r.Intn(len(x.Comps[l.To].Code) / 4)
			x.Links = append(x.Links, l)
		}
	}
	for range r.Intn(5) {
		read := r.Intn(1 << len(x.Comps))
		x.Shares = append(x.Shares, api.Share{Read: read, Write: read & r.Intn(16)})
	}
	return x
}

func TestP172ThereAndBack(t *testing.T) {
	r := rand.New(rand.NewSource(32))
	fine := 0
	for range 400 {
		x := some(r)
		b := image.Put(x)
		if y, err := image.Get(b); err != api.OK || !same(x, y) {
			t.Fatal(err)
		}
		for range 30 {
			c := bytes.Clone(b)
			c[r.Intn(min(len(c), 40))] = byte(r.Intn(20))
			y, err := image.Get(c)
			if err == api.OK {
				fine++
				if !image.Right(y) || !bytes.Equal(image.Put(y), c) {
					t.Fatal(c)
				}
			} else if !same(y, api.Image{}) {
				t.Fatal(err, y)
			}
		}
	}
	if fine == 0 {
		t.Error("none was right")
	}
}

func TestP172AnyBytes(t *testing.T) {
	r := rand.New(rand.NewSource(33))
	for range 20000 {
		b := make([]byte, r.Intn(40))
		r.Read(b)
		copy(b, "SZ")
		if x, err := image.Get(b); err == api.OK && !bytes.Equal(image.Put(x), b) || err != api.OK && !same(x, api.Image{}) {
			t.Fatal(b, err)
		}
	}
	refused(t, "255 of all", []byte{'S', 'Z', 0, 255, 255, 255, 255, 255, 255}, 1)
	refused(t, "255 of all, and more", bytes.Repeat([]byte{255}, 5000), 1)
}

// spans are all that a layout tells.
func spans(x api.Image) [][2]int {
	w := image.Where(x)
	l := slices.Concat(w.Code, w.Data, w.Heap)
	for _, at := range w.Shares {
		l = append(l, [2]int{at, at + 256})
	}
	return l
}

// apart: have two spans nothing in common?
func apart(a [2]int, b [2]int) bool { return a[1] <= b[0] || b[1] <= a[0] }

func TestP173Apart(t *testing.T) {
	r := rand.New(rand.NewSource(34))
	for range 300 {
		x := some(r)
		w, l := image.Where(x), spans(x)
		pages := 1
		for i, a := range l {
			if a[0]%256 != 0 || a[0] < 256 || a[0] >= a[1] || a[1] > 256*w.Pages {
				t.Fatal(l)
			}
			pages += (a[1] - a[0] + 255) / 256
			for _, b := range l[:i] {
				if a[0]/256 == (b[1]-1)/256 || !apart(a, b) {
					t.Fatal(l)
				}
			}
		}
		if pages != w.Pages || len(w.Code) != len(x.Comps) || len(w.Shares) != len(x.Shares) {
			t.Fatal(w)
		}
	}
}

func TestP174OnesOwn(t *testing.T) {
	r := rand.New(rand.NewSource(35))
	for range 200 {
		x := some(r)
		w := image.Where(x)
		for comp := range x.Comps {
			grants := image.Grants(x, comp)
			for other := range comp {
				for _, c := range grants[:3] {
					for _, d := range image.Grants(x, other) {
						if !apart([2]int{c.Base, c.Top}, [2]int{d.Base, d.Top}) {
							t.Fatal(c, d)
						}
					}
				}
			}
			for _, c := range grants {
				if !c.Tag || c.Type != 0 || !cap.Right(c) || c.At != c.Base {
					t.Fatal(c)
				}
			}
			for _, c := range grants[3:] {
				if !slices.Contains(w.Shares, c.Base) {
					t.Fatal(c)
				}
			}
			all := clos.New(grants)
			for _, pair := range image.Pairs(x, comp) {
				for _, c := range pair {
					open := c
					open.Type = 0
					if c.Type == 0 || !c.Tag || !cap.Right(c) || all.Has(open) || slices.Contains(all.Types(api.Unseal), c.Type) || slices.Contains(all.Types(api.Seal), c.Type) {
						t.Fatal(c)
					}
				}
				if pair[0].Type != pair[1].Type || pair[0].Perms != api.Read|api.Exec || pair[1].Perms&api.Exec != 0 {
					t.Fatal(pair)
				}
			}
		}
	}
}

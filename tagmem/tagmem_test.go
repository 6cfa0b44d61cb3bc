package tagmem_test

import (
	"bytes"
	"math"
	"math/rand"
	"slices"
	"testing"

	"seizin/api"
	"seizin/cap"
	"seizin/enc"
	"seizin/tagmem"
)

// one is a tagged capability, of which all bytes that may be are not 0.
var one = api.Cap{Tag: true, Base: 0x010203, Top: 0x040506, At: 0x0708090a, Perms: 11, Type: 12}

// model is a memory, kept byte by byte.
type model struct {
	bytes []byte
	tags  map[int]bool
	dirty map[int]bool
}

func newModel(pages int) *model {
	return &model{make([]byte, 256*pages), map[int]bool{}, map[int]bool{}}
}

func (m *model) in(at int, n int) bool {
	return at >= 0 && n >= 0 && at <= len(m.bytes) && n <= len(m.bytes)-at
}

func (m *model) store(at int, b []byte) bool {
	if !m.in(at, len(b)) {
		return false
	}
	for i, x := range b {
		m.bytes[at+i] = x
		delete(m.tags, (at+i)/16*16)
	}
	return true
}

func (m *model) granule(at int) bool { return at%16 == 0 && m.in(at, 16) }

func (m *model) storeCap(at int, c api.Cap) bool {
	if !m.granule(at) || !cap.Right(c) {
		return false
	}
	m.store(at, enc.Put(c))
	if c.Tag {
		m.tags[at] = true
		m.dirty[at/256] = true
	}
	return true
}

func (m *model) clean(page int) bool {
	if page < 0 || page >= len(m.bytes)/256 {
		return false
	}
	for at := range m.tags {
		if at/256 == page {
			return false
		}
	}
	delete(m.dirty, page)
	return true
}

// sorted are a map's keys, the least first.
func sorted(m map[int]bool) []int {
	var l []int
	for n := range m {
		l = append(l, n)
	}
	slices.Sort(l)
	return l
}

// hold holds a memory against its model, all of it.
func hold(t *testing.T, m *tagmem.Mem, want *model) {
	t.Helper()
	if b, is := m.Load(0, m.Size()); !is || !bytes.Equal(b, want.bytes) {
		t.Fatal("bytes")
	}
	if !slices.Equal(m.Tags(), sorted(want.tags)) {
		t.Fatal("tags", m.Tags(), want.tags)
	}
	if !slices.Equal(m.Dirty(), sorted(want.dirty)) {
		t.Fatal("dirty", m.Dirty(), want.dirty)
	}
	for at := -40; at < m.Size()+40; at++ {
		if m.Tag(at) != want.tags[at] {
			t.Fatal("tag", at)
		}
		c, is := m.LoadCap(at)
		if is != want.granule(at) {
			t.Fatal("granule", at)
		}
		if !is {
			if c != (api.Cap{}) {
				t.Fatal(at, c)
			}
			continue
		}
		if right, _ := enc.Get(want.bytes[at:at+16], want.tags[at]); c != right {
			t.Fatal(at, c, right)
		}
	}
}

func TestP71New(t *testing.T) {
	for n, want := range map[int]bool{math.MinInt: false, -1: false, 0: false, 1: true, 2: true, 65536: true, 65537: false, math.MaxInt: false} {
		m := tagmem.New(n)
		if (m != nil) != want {
			t.Error(n)
		}
		if m == nil {
			continue
		}
		if m.Size() != 256*n || len(m.Tags()) != 0 || len(m.Dirty()) != 0 {
			t.Error(n, m.Size())
		}
		if b, is := m.Load(0, 256*n); !is || len(bytes.Trim(b, "\x00")) != 0 || len(b) != 256*n {
			t.Error(n, "bytes")
		}
		if !m.StoreCap(256*n-16, one) || m.StoreCap(256*n, one) || !m.Tag(256*n-16) {
			t.Error(n, "the last one")
		}
	}
}

func TestP71LoadAndStoreAtTheEdges(t *testing.T) {
	m, want := tagmem.New(2), newModel(2)
	places := []int{math.MinInt, -256, -17, -16, -1, 0, 1, 15, 16, 255, 256, 257, 495, 496, 511, 512, 513, 1 << 40, math.MaxInt - 5, math.MaxInt}
	counts := []int{math.MinInt, -1, 0, 1, 2, 15, 16, 17, 33, 256, 511, 512, 513, 1 << 40, math.MaxInt}
	for _, at := range places {
		for _, n := range counts {
			b, is := m.Load(at, n)
			if is != want.in(at, n) || !is && len(b) != 0 || is && !bytes.Equal(b, want.bytes[at:at+n]) {
				t.Fatal("load", at, n, is)
			}
			if n < 0 || n > 513 {
				continue
			}
			b = make([]byte, n)
			for i := range b {
				b[i] = byte(at + 7*i + 3)
			}
			if m.Store(at, b) != want.store(at, b) {
				t.Fatal("store", at, n)
			}
			hold(t, m, want)
		}
	}
	if !m.Store(512, nil) || m.Store(513, nil) || m.Store(-1, nil) {
		t.Error("of nothing")
	}
}

func TestP71StoreCap(t *testing.T) {
	m, want := tagmem.New(2), newModel(2)
	plain := one
	plain.Tag = false
	wrong := one
	wrong.Top = 0
	for _, c := range []api.Cap{one, plain, wrong, {Perms: 128}, {At: -1}, {Tag: true}} {
		for _, at := range []int{math.MinInt, -16, -1, 0, 8, 16, 17, 240, 256, 272, 496, 497, 511, 512, 528, math.MaxInt - 15, math.MaxInt} {
			if m.StoreCap(at, c) != want.storeCap(at, c) {
				t.Fatal(at, c)
			}
			hold(t, m, want)
		}
	}
}

func TestP71Strip(t *testing.T) {
	m, want := tagmem.New(2), newModel(2)
	for _, at := range []int{0, 16, 240, 256, 496} {
		m.StoreCap(at, one)
		want.storeCap(at, one)
	}
	for _, at := range []int{math.MinInt, -16, 1, 8, 32, 17, 512, math.MaxInt, 16, 16, 496, 0, 256, 240} {
		if m.Strip(at) != want.tags[at] {
			t.Error(at)
		}
		delete(want.tags, at)
		hold(t, m, want)
	}
}

func TestP71Clean(t *testing.T) {
	m, want := tagmem.New(3), newModel(3)
	m.StoreCap(256, one)
	want.storeCap(256, one)
	m.StoreCap(512+240, one)
	want.storeCap(512+240, one)
	for range 2 {
		for _, page := range []int{math.MinInt, -1, 0, 1, 2, 3, math.MaxInt} {
			if m.Clean(page) != want.clean(page) {
				t.Error(page)
			}
			hold(t, m, want)
		}
		m.Strip(512 + 240)
		delete(want.tags, 512+240)
	}
}

func TestP71AnswersAreNewMemory(t *testing.T) {
	m := tagmem.New(1)
	m.StoreCap(16, one)
	given := []byte{1, 2, 3}
	m.Store(100, given)
	given[0] = 9
	b, _ := m.Load(100, 3)
	b[1] = 9
	_ = append(b, 9, 9)
	tags, dirty := m.Tags(), m.Dirty()
	tags[0], dirty[0] = 77, 77
	if b, _ := m.Load(100, 6); !bytes.Equal(b, []byte{1, 2, 3, 0, 0, 0}) {
		t.Error(b)
	}
	if !slices.Equal(m.Tags(), []int{16}) || !slices.Equal(m.Dirty(), []int{0}) {
		t.Error(m.Tags(), m.Dirty())
	}
}

func TestP72AStoreOfBytesMakesNoTag(t *testing.T) {
	m := tagmem.New(4)
	m.StoreCap(256, one)
	if !m.Store(271, []byte{7}) || m.Tag(256) {
		t.Error("a byte stored over the end of one")
	}
	m.StoreCap(256, one)
	if !m.Store(272, []byte{7}) || !m.Store(255, []byte{7}) || !m.Tag(256) {
		t.Error("a byte stored beside one")
	}
	b, _ := m.Load(256, 16)
	if !m.Store(256, b) || m.Tag(256) {
		t.Error("its own bytes")
	}
	if c, _ := m.LoadCap(256); c.Tag {
		t.Error(c)
	}
	m.StoreCap(16, one)
	m.Store(31, []byte{0})
	if m.Tag(16) {
		t.Error("example")
	}
	m.StoreCap(16, one)
	if m.Store(16, nil) && !m.Tag(16) {
		t.Error("nothing was stored")
	}
}

func TestP72AnyCalls(t *testing.T) {
	r := rand.New(rand.NewSource(12))
	for range 30 {
		pages := 1 + r.Intn(3)
		m, want := tagmem.New(pages), newModel(pages)
		for range 200 {
			at := r.Intn(256*pages+40) - 20
			granule := at / 16 * 16
			switch r.Intn(6) {
			case 0:
				b := make([]byte, r.Intn(40))
				r.Read(b)
				if m.Store(at, b) != want.store(at, b) {
					t.Fatal("store", at)
				}
			case 1, 2:
				c := one
				c.Tag, c.At = r.Intn(3) > 0, r.Intn(1000)
				if m.StoreCap(granule, c) != want.storeCap(granule, c) {
					t.Fatal("storecap", granule)
				}
			case 3:
				if m.Strip(granule) != want.tags[granule] {
					t.Fatal("strip", granule)
				}
				delete(want.tags, granule)
			default:
				page := r.Intn(pages+2) - 1
				if m.Clean(page) != want.clean(page) {
					t.Fatal("clean", page)
				}
			}
			hold(t, m, want)
		}
	}
}

func TestP73EachTagIsOnADirtyPage(t *testing.T) {
	r := rand.New(rand.NewSource(13))
	m := tagmem.New(5)
	for range 3000 {
		at := r.Intn(80) * 16
		switch r.Intn(4) {
		case 0:
			m.StoreCap(at, one)
		case 1:
			m.Store(at+r.Intn(16), []byte{1})
		case 2:
			m.Strip(at)
		default:
			m.Clean(at / 256)
		}
		dirty := m.Dirty()
		for _, at := range m.Tags() {
			if !slices.Contains(dirty, at/256) {
				t.Fatal(at, dirty)
			}
		}
	}
}

func TestP74ThereAndBack(t *testing.T) {
	r := rand.New(rand.NewSource(14))
	m := tagmem.New(8)
	caps, last := map[int]api.Cap{}, map[int]byte{}
	for range 3000 {
		at := r.Intn(128) * 16
		if r.Intn(2) == 0 {
			c := api.Cap{Tag: r.Intn(2) == 0, Base: r.Intn(99), Top: 99 + r.Intn(99), At: r.Intn(1 << 32), Perms: r.Intn(128), Type: r.Intn(256)}
			m.StoreCap(at, c)
			caps[at] = c
			for i := range 16 {
				delete(last, at+i)
			}
		} else {
			at += r.Intn(16)
			last[at] = byte(r.Intn(256))
			m.Store(at, []byte{last[at]})
			delete(caps, at/16*16)
		}
		for at, c := range caps {
			if got, is := m.LoadCap(at); got != c || !is {
				t.Fatal(at, got, c)
			}
		}
		for at, x := range last {
			if got, is := m.Load(at, 1); !is || got[0] != x {
				t.Fatal(at, got, x)
			}
		}
	}
}

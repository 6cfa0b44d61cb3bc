package image

import (
	"bytes"

	"seizin/api"
)

// octets are bytes that are read beyond their end, too, as 0.
type octets []byte

// at is the byte of a place.
func (o octets) at(place int) int {
	if place >= len(o) {
		return 0
	}
	return int(o[place])
}

// reader takes bytes in order.
type reader struct {
	octets
	next int
}

// number is the one of so many bytes, the highest first.
func (r *reader) number(many int) int {
	n := 0
	for range many {
		n = n<<8 | r.at(r.next)
		r.next++
	}
	return n
}

// several are so many, taken one by one.
func several[T any](many int, take func() T) []T {
	var l []T
	for range many {
		l = append(l, take())
	}
	return l
}

// two are a number's two bytes, the higher first.
func two(n int) []byte { return []byte{byte(n >> 8), byte(n)} }

// bit is a byte for what is so, or not.
func bit(is bool) byte {
	if is {
		return 1
	}
	return 0
}

// head is a right one's bytes, up to where the codes begin.
func head(x api.Image) []byte {
	b := []byte{'S', 'Z', bit(x.Strict), byte(x.Heap)}
	b = append(b, two(x.Full)...)
	b = append(b, byte(len(x.Comps)), byte(len(x.Links)), byte(len(x.Shares)))
	for _, c := range x.Comps {
		b = append(b, two(len(c.Code))...)
		b = append(b, byte(c.Data))
	}
	for _, l := range x.Links {
		b = append(b, byte(l.From), byte(l.To))
		b = append(b, two(l.At)...)
	}
	for _, s := range x.Shares {
		b = append(b, byte(s.Read), byte(s.Write))
	}
	return b
}

// Put is an image's bytes.
func Put(x api.Image) []byte {
	if !Right(x) {
		return nil
	}
	b := head(x)
	for _, c := range x.Comps {
		b = append(b, c.Code...)
	}
	return b
}

// readHead takes all up to where the codes begin: the image, without codes, and how long these are.
func readHead(r *reader) (api.Image, []int) {
	r.next = len("SZ")
	x := api.Image{Strict: r.number(1) == 1, Heap: r.number(1), Full: r.number(2)}
	comps, links, shares := r.number(1), r.number(1), r.number(1)
	var lengths []int
	x.Comps = several(comps, func() api.Comp {
		lengths = append(lengths, r.number(2))
		return api.Comp{Data: r.number(1)}
	})
	x.Links = several(links, func() api.Link {
		return api.Link{From: r.number(1), To: r.number(1), At: r.number(2)}
	})
	x.Shares = several(shares, func() api.Share {
		return api.Share{Read: r.number(1), Write: r.number(1)}
	})
	return x, lengths
}

// Get is the image of bytes, or what is wrong.
func Get(b []byte) (api.Image, api.Errno) {
	r := &reader{octets: b}
	x, lengths := readHead(r)
	from, end := r.next, r.next
	for _, length := range lengths {
		end += length
	}
	if end != len(b) {
		return api.Image{}, api.ErrArg
	}
	// Bytes of 0 are right code, of any length that may be: what is wrong with these is wrong with all.
	for i, length := range lengths {
		x.Comps[i].Code = make([]byte, length)
	}
	if !Right(x) || !bytes.Equal(head(x), b[:from]) {
		return api.Image{}, api.ErrArg
	}
	for _, c := range x.Comps {
		from += copy(c.Code, b[from:])
	}
	if !Right(x) {
		return api.Image{}, api.ErrOp
	}
	return x, api.OK
}

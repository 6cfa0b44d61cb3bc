// Package perm is layer 1: permissions, as numbers, as sets, and as letters.
package perm

import (
	"math/bits"
	"strings"

	"seizin/api"
)

const (
	letters = "rwxlseu" // the lowest bit's first
	nothing = "-"
)

// Right: are these permissions?
func Right(p int) bool { return 0 <= p && p <= api.AllPerms }

// Of is the set of all that are right.
func Of(l ...int) int {
	all := 0
	for _, p := range l {
		if Right(p) {
			all |= p
		}
	}
	return all
}

// Has: are all of q among p?
func Has(p int, q int) bool { return Right(p) && Right(q) && p&q == q }

// Many is how many there are.
func Many(p int) int {
	if !Right(p) {
		return 0
	}
	return bits.OnesCount(uint(p))
}

// Text is how some are written.
func Text(p int) string {
	if !Right(p) {
		return ""
	}
	if p == 0 {
		return nothing
	}
	var text strings.Builder
	for place, letter := range letters {
		if Has(p, 1<<place) {
			text.WriteRune(letter)
		}
	}
	return text.String()
}

// Parse is what is written so.
func Parse(s string) (int, bool) {
	p := 0
	for _, letter := range s {
		p = Of(p, permission(letter))
	}
	// Letters may stand in another order, or twice, or be none at all: then the text is another one.
	if Text(p) != s {
		return 0, false
	}
	return p, true
}

// permission is a letter's, or none.
func permission(letter rune) int {
	place := strings.IndexRune(letters, letter)
	if place < 0 {
		return 0
	}
	return 1 << place
}

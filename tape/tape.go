// Package tape is layer 2: see shared/doc/02-tape.md.
package tape

import (
	"slices"
	"strings"

	"signalman/api"
)

// Tape is bits, one behind the other.
type Tape []bool

// octet is how many bits an octet has.
const octet = 8

// Of: the bits of some octets, the lowest of each first.
func Of(p []byte) Tape {
	t := make(Tape, 0, octet*len(p))
	for _, b := range p {
		for i := range octet {
			t = append(t, b>>i&1 == 1)
		}
	}
	return t
}

// Octets: bits as octets, the lowest of each first. ErrWhole: they aren't whole ones.
func (t Tape) Octets() ([]byte, api.Errno) {
	if len(t)%octet != 0 {
		return nil, api.ErrWhole
	}
	p := make([]byte, len(t)/octet)
	for i := range p {
		p[i] = Low(t[octet*i:])
	}
	return p, api.OK
}

// Low: the first eight bits, at most, as a number, the lowest first.
func Low(t Tape) byte {
	var b byte
	for i := range min(octet, len(t)) {
		if t[i] {
			b |= 1 << i
		}
	}
	return b
}

// Text: bits as a text of 0 and 1. Parse: and back; blanks and underlines are passed by. ErrWord: another sign.
func (t Tape) Text() string {
	var s strings.Builder
	s.Grow(len(t))
	for _, on := range t {
		if on {
			s.WriteByte('1')
		} else {
			s.WriteByte('0')
		}
	}
	return s.String()
}

func Parse(s string) (Tape, api.Errno) {
	t := make(Tape, 0, len(s))
	for _, r := range s {
		switch r {
		case '0', '1':
			t = append(t, r == '1')
		case ' ', '_':
		default:
			return nil, api.ErrWord
		}
	}
	return t, api.OK
}

// Run: how many ones the longest run has. Ones: how many ones there are.
func (t Tape) Run() int {
	longest, run := 0, 0
	for _, on := range t {
		if on {
			run++
		} else {
			run = 0
		}
		longest = max(longest, run)
	}
	return longest
}

func (t Tape) Ones() int {
	n := 0
	for _, on := range t {
		if on {
			n++
		}
	}
	return n
}

// Turn: bits, of which those are turned that a mask has; behind its end none.
func (t Tape) Turn(mask Tape) Tape {
	// What is handed in stays as it is: a copy is turned.
	turned := make(Tape, len(t))
	copy(turned, t)
	for i := range min(len(t), len(mask)) {
		if mask[i] {
			turned[i] = !turned[i]
		}
	}
	return turned
}

// Same: are two one?
func Same(a, b Tape) bool { return slices.Equal(a, b) }

// Package ring is layer 1: see shared/doc/01-ring.md.
package ring

import "iter"

// Size is how many numbers there are: 0 to 127.
const Size = 128

// At: a number, going round.
func At(n int) uint8 {
	// Go's rest has the sign of n: one round more brings it to 0 or above.
	return uint8((n%Size + Size) % Size)
}

// Next: the one behind. Prev: the one ahead.
func Next(n uint8) uint8 { return At(int(n) + 1) }

func Prev(n uint8) uint8 { return At(int(n) - 1) }

// Gap: how many steps it is from one on to another one.
func Gap(from, to uint8) int { return int(At(int(to) - int(from))) }

// Within: does one come up when one goes on from a first one to a last one?
func Within(n, first, last uint8) bool { return Gap(first, n) <= Gap(first, last) }

// Between: all from a first one on up to a last one.
func Between(first, last uint8) []uint8 {
	all := make([]uint8, 0, Gap(first, last)+1)
	for n := range walk(first, last) {
		all = append(all, n)
	}
	return all
}

// walk goes on from first to last. Both are brought below Size at the beginning: otherwise a last one above 127 would never be met.
func walk(first, last uint8) iter.Seq[uint8] {
	return func(yield func(uint8) bool) {
		n, end := At(int(first)), At(int(last))
		for yield(n) && n != end {
			n = Next(n)
		}
	}
}

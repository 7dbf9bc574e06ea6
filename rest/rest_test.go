package rest_test

import (
	"bytes"
	"math/bits"
	"testing"

	"signalman/rest"
	"signalman/tape"
)

// step is a step of the polynomial as it is written, x^16 first, not turned about: only the number is turned about, ahead of it and behind it.
func step(r uint16, on bool) uint16 {
	r = bits.Reverse16(r)
	top := r >= 0x8000
	r <<= 1
	if top != on {
		r ^= 1<<12 | 1<<5 | 1<<0
	}
	return bits.Reverse16(r)
}

// left is what is left of bits, by step.
func left(t tape.Tape) uint16 {
	r := uint16(0xffff)
	for _, on := range t {
		r = step(r, on)
	}
	return r
}

// octets is n octets that are unlike each other as far as they go.
func octets(n int) []byte {
	p := make([]byte, n)
	for i := range p {
		p[i] = byte(37*i + i/256 + 11)
	}
	return p
}

// samples is octets of many kinds and sizes: none, one, two, up to a longest unit.
func samples() [][]byte {
	all := [][]byte{nil, {}, []byte("123456789"), []byte("abc")}
	for _, n := range []int{1, 2, 3, 4, 7, 8, 9, 64, 277} {
		all = append(all, make([]byte, n), bytes.Repeat([]byte{0xff}, n), octets(n))
	}
	for b := range 256 {
		all = append(all, []byte{byte(b)}, []byte{byte(b), 0}, []byte{0, byte(b)})
	}
	return all
}

// P3.1: Step of 0 and of ffff, and of all others, with both bits.
func TestStep(t *testing.T) {
	for _, c := range []struct {
		r    uint16
		on   bool
		want uint16
	}{
		{0, false, 0}, {0, true, 0x8408}, {0xffff, true, 0x7fff}, {0xffff, false, 0xfbf7},
		{1, true, 0}, {1, false, 0x8408}, {2, false, 1}, {2, true, 0x8409}, {0x8000, false, 0x4000}, {0x8000, true, 0xc408},
	} {
		if got := rest.Step(c.r, c.on); got != c.want {
			t.Errorf("Step(%x, %v) = %x, want %x", c.r, c.on, got, c.want)
		}
	}
	for r := range 1 << 16 {
		for _, on := range []bool{false, true} {
			if got, want := rest.Step(uint16(r), on), step(uint16(r), on); got != want {
				t.Fatalf("Step(%x, %v) = %x, want %x", r, on, got, want)
			}
		}
	}
}

// P3.1: Bits of none, and of some by hand.
func TestBitsByHand(t *testing.T) {
	for _, c := range []struct {
		in   tape.Tape
		want uint16
	}{
		{nil, 0xffff}, {tape.Tape{}, 0xffff},
		{tape.Tape{true}, 0x7fff}, {tape.Tape{false}, 0xfbf7},
		{tape.Tape{true, false}, 0xbbf7}, {tape.Tape{false, true}, 0x7dfb},
		{make(tape.Tape, 16), 0xf0b8},
	} {
		if got := rest.Bits(c.in); got != c.want {
			t.Errorf("Bits(%s) = %x, want %x", c.in.Text(), got, c.want)
		}
	}
	if rest.Good != 0xf0b8 {
		t.Errorf("Good = %x", rest.Good)
	}
}

// P3.1: Bits of all bits up to thirteen, and of longer ones, whole octets or not.
func TestBits(t *testing.T) {
	for n := range 14 {
		for v := range 1 << n {
			x := tape.Of([]byte{byte(v), byte(v >> 8)})[:n]
			if got, want := rest.Bits(x), left(x); got != want {
				t.Fatalf("Bits(%s) = %x, want %x", x.Text(), got, want)
			}
		}
	}
	long := tape.Of(octets(40))
	for n := range len(long) + 1 {
		if got, want := rest.Bits(long[:n]), left(long[:n]); got != want {
			t.Fatalf("Bits of %d = %x, want %x", n, got, want)
		}
	}
}

// P3.1: Check: the document's example, some by hand, and of each sample the lower octet first.
func TestCheck(t *testing.T) {
	for _, c := range []struct {
		p    []byte
		want []byte
	}{
		{[]byte("123456789"), []byte{0x6e, 0x90}},
		{nil, []byte{0, 0}},
		{[]byte{}, []byte{0, 0}},
		{[]byte{0}, []byte{0x78, 0xf0}},
		{[]byte{0, 0}, []byte{0x47, 0x0f}},
		{[]byte{0xff}, []byte{0x00, 0xff}},
	} {
		if got := rest.Check(c.p); !bytes.Equal(got, c.want) {
			t.Errorf("Check(%x) = %x, want %x", c.p, got, c.want)
		}
	}
	for _, p := range samples() {
		r := left(tape.Of(p))
		want := []byte{255 - byte(r%256), 255 - byte(r/256)}
		if got := rest.Check(p); !bytes.Equal(got, want) {
			t.Errorf("Check(%x) = %x, want %x", p, got, want)
		}
	}
}

// P3.1: With: the octets, and their Check behind them.
func TestWith(t *testing.T) {
	if got := rest.With([]byte("123456789")); string(got) != "123456789\x6e\x90" {
		t.Errorf("With = %x", got)
	}
	if got := rest.With(nil); !bytes.Equal(got, []byte{0, 0}) {
		t.Errorf("With(nil) = %x", got)
	}
	for _, p := range samples() {
		got, n := rest.With(p), len(p)
		if len(got) != n+2 || !bytes.Equal(got[:n], p) || !bytes.Equal(got[n:], rest.Check(p)) {
			t.Errorf("With(%x) = %x", p, got)
		}
	}
}

// P3.1: Right of none and of one octet never; of two only of those that are the check of none; of three only behind the right octet's check.
func TestRightFew(t *testing.T) {
	if rest.Right(nil) || rest.Right([]byte{}) {
		t.Error("Right of no octets")
	}
	for a := range 256 {
		if rest.Right([]byte{byte(a)}) {
			t.Errorf("Right(%x)", a)
		}
		for b := range 256 {
			if got, want := rest.Right([]byte{byte(a), byte(b)}), a == 0 && b == 0; got != want {
				t.Fatalf("Right(%x %x) = %v", a, b, got)
			}
			p := []byte{0x31, byte(a), byte(b)}
			if got, want := rest.Right(p), bytes.Equal(rest.Check(p[:1]), p[1:]); got != want {
				t.Fatalf("Right(%x) = %v", p, got)
			}
		}
	}
}

// P3.1: Right is false where an octet, or more, is missing, or the check's octets are the other way round.
func TestRightCut(t *testing.T) {
	w := rest.With([]byte("123456789"))
	if !rest.Right(w) {
		t.Fatal("Right of the whole")
	}
	for n := range len(w) {
		if rest.Right(w[:n]) {
			t.Errorf("Right of the first %d", n)
		}
	}
	if rest.Right(w[1:]) || rest.Right([]byte("123456789\x90\x6e")) || rest.Right([]byte("123456789\x91\x6f")) || rest.Right(append(w, 0)) {
		t.Error("Right of another one")
	}
}

// P3.2: With is Right.
func TestWithIsRight(t *testing.T) {
	for _, p := range samples() {
		if w := rest.With(p); !rest.Right(w) {
			t.Errorf("Right(%x) is false", w)
		}
	}
	for n := range 600 {
		if !rest.Right(rest.With(octets(n))) {
			t.Errorf("Right of With of %d octets is false", n)
		}
	}
}

// turn turns those of the octets' bits, from a place on, that a pattern has; the second time it turns them back.
func turn(p []byte, place int, pattern uint16) {
	for wide := uint32(pattern) << (place % 8); wide != 0; wide >>= 8 {
		p[place/8] ^= byte(wide)
		place += 8
	}
}

// checkTurned turns a pattern at each place where it fits in whole: the octets aren't Right then.
func checkTurned(t *testing.T, w []byte, pattern uint16) {
	t.Helper()
	for place := range 8*len(w) - bits.Len16(pattern) + 1 {
		turn(w, place, pattern)
		if rest.Right(w) {
			t.Fatalf("%d octets, turned by %b from bit %d on, are Right", len(w), pattern, place)
		}
		turn(w, place, pattern)
	}
}

// P3.2: of few octets every run of one to sixteen bits, turned in every manner at every place, across octets and inside the check too.
func TestTurnedFew(t *testing.T) {
	for _, p := range [][]byte{nil, {0}, {0x5a, 0xff}, []byte("abc")} {
		w := rest.With(p)
		// A run begins with a bit that is turned: a pattern that is even is an odd one, a place further on.
		for pattern := 1; pattern < 1<<16; pattern += 2 {
			checkTurned(t, w, uint16(pattern))
		}
		if !bytes.Equal(w, rest.With(p)) {
			t.Fatal("the octets weren't turned back")
		}
	}
}

// P3.2: of more octets, up to a longest unit, runs of each length, all turned, both ends turned, each second one turned, and turned like the polynomial, at every place.
func TestTurnedMany(t *testing.T) {
	for _, n := range []int{9, 30, 277} {
		w := rest.With(octets(n))
		for length := 1; length <= 16; length++ {
			whole := uint16(1<<length - 1)
			ends := uint16(1<<(length-1) | 1)
			for _, pattern := range []uint16{whole, ends, 0x5555&whole | ends, 0x1021&whole | ends, 0x8408&whole | ends} {
				checkTurned(t, w, pattern)
			}
		}
	}
}

// P1: nil, empty and long lists: every call ends, and none panics.
func TestEnds(t *testing.T) {
	for _, n := range []int{0, 1, 2, 3, 279, 100003} {
		p := make([]byte, n)
		if got := rest.Check(p); len(got) != 2 {
			t.Errorf("Check of %d octets has %d", n, len(got))
		}
		if got := rest.With(p); len(got) != n+2 {
			t.Errorf("With of %d octets has %d", n, len(got))
		}
		rest.Right(p)
		rest.Bits(make(tape.Tape, n))
	}
	rest.Check(nil)
	rest.With(nil)
	rest.Right(nil)
	rest.Bits(nil)
}

// P2: what stands behind a list's end, within its capacity, doesn't count, and isn't written over.
func TestBehindTheEnd(t *testing.T) {
	whole := []byte("123456789 and more")
	cut := whole[:9]
	if !bytes.Equal(rest.Check(cut), []byte{0x6e, 0x90}) || string(rest.With(cut)) != "123456789\x6e\x90" || rest.Right(cut) {
		t.Error("octets behind the end count")
	}
	if string(whole) != "123456789 and more" {
		t.Errorf("written over: %q", whole)
	}
	right := append(rest.With(cut), 0x55)[:11]
	if !rest.Right(right) {
		t.Error("Right: octets behind the end count")
	}
	if got := rest.Bits(tape.Tape{true, false, true}[:1]); got != 0x7fff {
		t.Errorf("Bits: bits behind the end count: %x", got)
	}
}

// P2: an answer is new memory, and what is handed in isn't changed: to write over an answer, or append to it, changes neither an argument nor a later answer.
func TestAnswersAreNew(t *testing.T) {
	p, x := []byte("123456789"), tape.Tape{true, false}
	for range 2 {
		c, w, empty := rest.Check(p), rest.With(p), rest.With(nil)
		if !bytes.Equal(c, []byte{0x6e, 0x90}) || string(w) != "123456789\x6e\x90" || !bytes.Equal(empty, []byte{0, 0}) {
			t.Fatalf("Check %x, With %x, With(nil) %x", c, w, empty)
		}
		if !rest.Right(w) || string(w) != "123456789\x6e\x90" || rest.Bits(x) != 0xbbf7 {
			t.Fatal("Right, Bits")
		}
		for _, l := range [][]byte{c, w, empty} {
			for i := range l {
				l[i] = 99
			}
			_ = append(l, 98, 97)
		}
	}
	if string(p) != "123456789" || !tape.Same(x, tape.Tape{true, false}) {
		t.Error("what was handed in is changed")
	}
}

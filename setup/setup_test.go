package setup_test

import (
	"bytes"
	"fmt"
	"math"
	"math/big"
	"math/rand"
	"testing"

	"signalman/api"
	"signalman/flag"
	"signalman/setup"
)

// methods: a setup of each is asked.
var methods = []bool{false, true}

// field is a number of a setup that has bounds of its own.
type field struct {
	name        string
	in          func(s *api.Setup) *int
	least, most int
}

// counts are the fields that are no timers.
var counts = []field{
	{"N1", func(s *api.Setup) *int { return &s.N1 }, 1, 127},
	{"N2", func(s *api.Setup) *int { return &s.N2 }, 1, 1048576},
	{"Hold", func(s *api.Setup) *int { return &s.Hold }, 1, 512},
	{"Octets", func(s *api.Setup) *int { return &s.Octets }, 273, 1048576},
}

// fields are the counts and the eight timers.
func fields() []field {
	l := append([]field{}, counts...)
	for i := range 8 {
		l = append(l, field{fmt.Sprintf("T[%d]", i), func(s *api.Setup) *int { return &s.T[i] }, 1, 1 << 32})
	}
	return l
}

// beyond: numbers that aren't within the bounds of a field.
func (f field) beyond() []int {
	return []int{math.MinInt, math.MinInt + 1, -1 << 32, -1, f.least - 1, f.most + 1, 1 << 33, math.MaxInt - 1, math.MaxInt}
}

// check holds Check against what is wanted, and what was handed in against what it was.
func check(t *testing.T, what string, s api.Setup, want api.Errno) {
	t.Helper()
	was := s
	if got := setup.Check(s); got != want {
		t.Errorf("%s: Check(%+v) = %d, want %d", what, s, got, want)
	}
	if s != was {
		t.Errorf("%s: Check has changed %+v to %+v", what, was, s)
	}
}

// P9.1: each field of both usual setups, and that a terminal may work so.
func TestUsual(t *testing.T) {
	for _, cyclic := range methods {
		s := setup.Usual(cyclic)
		if s.Cyclic != cyclic {
			t.Errorf("Usual(%v): Cyclic = %v", cyclic, s.Cyclic)
		}
		if s.N1 != 8 || s.N2 != 300 || s.Hold != 16 || s.Octets != 600 {
			t.Errorf("Usual(%v): N1 %d, N2 %d, Hold %d, Octets %d", cyclic, s.N1, s.N2, s.Hold, s.Octets)
		}
		for i, want := range []int{600, 12000, 8000, 4000, 1200, 100, 4000, 6000} {
			if s.T[i] != want {
				t.Errorf("Usual(%v): T[%d] = %d, want %d", cyclic, i, s.T[i], want)
			}
		}
		check(t, "usual", s, api.OK)
	}
}

// P2, the rule of memory: what becomes of an answer of Usual is nothing to the next one.
func TestUsualIsNew(t *testing.T) {
	for _, cyclic := range methods {
		was := setup.Usual(cyclic)
		s := setup.Usual(cyclic)
		for _, f := range fields() {
			*f.in(&s) = -7
		}
		s.Cyclic = !cyclic
		if now := setup.Usual(cyclic); now != was {
			t.Errorf("Usual(%v) = %+v, was %+v", cyclic, now, was)
		}
	}
}

// P9.1: each count at its bounds, and beyond them.
func TestCheckCounts(t *testing.T) {
	for _, cyclic := range methods {
		for _, f := range counts {
			for _, n := range []int{f.least, f.least + 1, (f.least + f.most) / 2, f.most - 1, f.most} {
				s := setup.Usual(cyclic)
				*f.in(&s) = n
				check(t, f.name, s, api.OK)
			}
			for _, n := range f.beyond() {
				s := setup.Usual(cyclic)
				*f.in(&s) = n
				check(t, f.name, s, api.ErrArg)
			}
		}
	}
}

// P9.1: the edges of the counts by the names of the limits.
func TestCheckCountsByLimits(t *testing.T) {
	for _, x := range []struct {
		at   int
		n    int
		want api.Errno
	}{
		{0, 0, api.ErrArg}, {0, 1, api.OK}, {0, api.Window, api.OK}, {0, api.Window + 1, api.ErrArg},
		{1, 0, api.ErrArg}, {1, 1, api.OK}, {1, api.MaxOctets, api.OK}, {1, api.MaxOctets + 1, api.ErrArg},
		{2, 0, api.ErrArg}, {2, 1, api.OK}, {2, api.MaxHold, api.OK}, {2, api.MaxHold + 1, api.ErrArg},
		{3, 0, api.ErrArg}, {3, 1, api.ErrArg}, {3, api.MaxInfo, api.ErrArg}, {3, api.MaxInfo + 1, api.OK},
		{3, api.MaxOctets, api.OK}, {3, api.MaxOctets + 1, api.ErrArg},
	} {
		for _, cyclic := range methods {
			s := setup.Usual(cyclic)
			*counts[x.at].in(&s) = x.n
			check(t, counts[x.at].name, s, x.want)
		}
	}
}

// wide is a setup whose timers leave each of them as much room as may be.
func wide(cyclic bool) api.Setup {
	s := setup.Usual(cyclic)
	s.T[0], s.T[4] = 1, api.MaxTime
	s.T[5], s.T[6] = 1, api.MaxTime
	return s
}

// P9.1: each timer at its bounds, and beyond them. T[5] at MaxTime and T[6] at 1 are within theirs, but leave no room for the other one.
func TestCheckTimers(t *testing.T) {
	for _, cyclic := range methods {
		for i := range 8 {
			for _, n := range []int{1, 2, 1000, api.MaxTime - 1, api.MaxTime} {
				s := wide(cyclic)
				s.T[i] = n
				want := api.OK
				if i == 5 && n == api.MaxTime || i == 6 && n == 1 {
					want = api.ErrRange
				}
				check(t, fmt.Sprintf("T[%d]", i), s, want)
			}
			for _, n := range []int{math.MinInt, -1 << 32, -1, 0, api.MaxTime + 1, 1 << 33, math.MaxInt} {
				s := wide(cyclic)
				s.T[i] = n
				check(t, fmt.Sprintf("T[%d]", i), s, api.ErrArg)
			}
		}
	}
}

// P9.1: T[0] is T[4], or one below it or above it, wherever that is within the bounds.
func TestCheckProving(t *testing.T) {
	for _, cyclic := range methods {
		for _, n := range []int{2, 3, 600, 1200, 1 << 31, api.MaxTime - 1} {
			for d := -1; d <= 1; d++ {
				s := setup.Usual(cyclic)
				s.T[4], s.T[0] = n, n+d
				want := api.OK
				if d > 0 {
					want = api.ErrRange
				}
				check(t, fmt.Sprintf("T[0] = T[4] + %d", d), s, want)
			}
		}
		for _, n := range []int{1, api.MaxTime} {
			s := setup.Usual(cyclic)
			s.T[0], s.T[4] = n, n
			check(t, "T[0] = T[4]", s, api.OK)
		}
		s := setup.Usual(cyclic)
		s.T[0], s.T[4] = api.MaxTime, 1
		check(t, "T[0] far above T[4]", s, api.ErrRange)
	}
}

// P9.1: T[5] is T[6], or one below it or above it, wherever that is within the bounds.
func TestCheckBusy(t *testing.T) {
	for _, cyclic := range methods {
		for _, n := range []int{2, 3, 100, 4000, 1 << 31, api.MaxTime - 1} {
			for d := -1; d <= 1; d++ {
				s := setup.Usual(cyclic)
				s.T[6], s.T[5] = n, n+d
				want := api.OK
				if d >= 0 {
					want = api.ErrRange
				}
				check(t, fmt.Sprintf("T[5] = T[6] + %d", d), s, want)
			}
		}
		for _, n := range []int{1, api.MaxTime} {
			s := setup.Usual(cyclic)
			s.T[5], s.T[6] = n, n
			check(t, "T[5] = T[6]", s, api.ErrRange)
		}
		s := setup.Usual(cyclic)
		s.T[5], s.T[6] = api.MaxTime, 1
		check(t, "T[5] far above T[6]", s, api.ErrRange)
		s.T[0], s.T[4] = 2, 1
		check(t, "both", s, api.ErrRange)
	}
}

// P9.1: no two other timers are held against each other.
func TestCheckOtherTimers(t *testing.T) {
	for _, cyclic := range methods {
		for _, i := range []int{1, 2, 3, 7} {
			for _, n := range []int{1, api.MaxTime} {
				s := setup.Usual(cyclic)
				s.T[i] = n
				check(t, fmt.Sprintf("T[%d]", i), s, api.OK)
			}
		}
		s := setup.Usual(cyclic)
		s.T = [8]int{1, 1, 1, 1, 1, 1, 2, 1}
		check(t, "the least timers", s, api.OK)
		s.T = [8]int{api.MaxTime, api.MaxTime, api.MaxTime, api.MaxTime, api.MaxTime, api.MaxTime - 1, api.MaxTime, api.MaxTime}
		check(t, "the greatest timers", s, api.OK)
	}
}

// The order of errors: ErrArg goes ahead of ErrRange, wherever the number stands that is beyond its bounds.
func TestCheckOrder(t *testing.T) {
	for _, cyclic := range methods {
		for _, pairs := range [][2]bool{{true, false}, {false, true}, {true, true}} {
			faulty := setup.Usual(cyclic)
			if pairs[0] {
				faulty.T[0], faulty.T[4] = 1201, 1200
			}
			if pairs[1] {
				faulty.T[5], faulty.T[6] = 4000, 4000
			}
			check(t, "ahead", faulty, api.ErrRange)
			for _, f := range fields() {
				for _, n := range f.beyond() {
					s := faulty
					*f.in(&s) = n
					check(t, f.name, s, api.ErrArg)
				}
			}
		}
	}
}

// The order of errors: a number that is beyond its bounds and by that doesn't go with its partner.
func TestCheckOneForBoth(t *testing.T) {
	for _, cyclic := range methods {
		for _, x := range []struct{ i, n int }{
			{0, api.MaxTime + 1}, {0, math.MaxInt}, {4, 0}, {4, math.MinInt},
			{5, api.MaxTime + 1}, {5, math.MaxInt}, {6, 0}, {6, math.MinInt},
		} {
			s := setup.Usual(cyclic)
			s.T[x.i] = x.n
			check(t, fmt.Sprintf("T[%d]", x.i), s, api.ErrArg)
		}
	}
}

// P9.1: the zero Setup, by both methods.
func TestCheckZero(t *testing.T) {
	for _, cyclic := range methods {
		check(t, "zero", api.Setup{Cyclic: cyclic}, api.ErrArg)
	}
}

// asked is Check by the document's words, number by number.
func asked(s api.Setup) api.Errno {
	for _, f := range fields() {
		if n := *f.in(&s); n < f.least || n > f.most {
			return api.ErrArg
		}
	}
	if s.T[0]-s.T[4] > 0 || s.T[6]-s.T[5] < 1 {
		return api.ErrRange
	}
	return api.OK
}

// P9.1, P2: setups of all kinds, with some of their numbers at edges, asked twice, with another one between.
func TestCheckPlay(t *testing.T) {
	r := rand.New(rand.NewSource(9))
	seen := map[api.Errno]int{}
	for range 20000 {
		s := setup.Usual(r.Intn(2) == 0)
		for _, f := range fields() {
			edges := append(f.beyond(), f.least, f.most)
			switch r.Intn(30) {
			case 0:
				*f.in(&s) = edges[r.Intn(len(edges))]
			case 1, 2, 3:
				*f.in(&s) = f.least + r.Intn(3)
			case 4, 5, 6:
				*f.in(&s) = f.most - r.Intn(3)
			}
		}
		want := asked(s)
		seen[want]++
		check(t, "play", s, want)
		setup.Check(setup.Usual(true))
		check(t, "again", s, want)
	}
	if len(seen) != 3 {
		t.Errorf("not all answers were asked for: %v", seen)
	}
}

// bigUnit, bigLeast: the document's words in numbers that don't wrap round.
func bigUnit(octets int) *big.Int {
	bits := new(big.Int).Mul(big.NewInt(8), big.NewInt(int64(octets)))
	if bits.Sign() < 0 {
		bits.SetInt64(0)
	}
	sum := new(big.Int).Div(bits, big.NewInt(5))
	sum.Add(sum, bits).Add(sum, big.NewInt(15))
	return sum.Div(sum, big.NewInt(8)).Add(sum, big.NewInt(1))
}

func bigLeast(delay int) *big.Int {
	bits := new(big.Int).Mul(big.NewInt(2), big.NewInt(int64(delay)))
	if bits.Sign() < 0 {
		bits.SetInt64(0)
	}
	sum := bits.Add(bits, big.NewInt(7))
	sum.Div(sum, big.NewInt(8))
	return sum.Add(sum, bigUnit(279)).Add(sum, bigUnit(279)).Add(sum, big.NewInt(8))
}

// P9.2: the chapter's example, and the edges of Unit.
func TestUnit(t *testing.T) {
	for _, x := range []struct{ octets, want int }{
		{math.MinInt, 2}, {math.MinInt + 1, 2}, {-1<<60 - 1, 2}, {-1 << 60, 2}, {-1 << 40, 2}, {-2, 2}, {-1, 2}, {0, 2},
		{1, 4}, {2, 5}, {3, 6}, {4, 7}, {5, 8}, {6, 10}, {7, 11}, {api.MinUnit, 8}, {api.MaxUnit - 1, 336}, {api.MaxUnit, 337},
		{1<<40 - 1, 1319413953332}, {1 << 40, 1319413953334},
	} {
		if got := setup.Unit(x.octets); got != x.want {
			t.Errorf("Unit(%d) = %d, want %d", x.octets, got, x.want)
		}
	}
}

// P9.2: the edges of Least.
func TestLeast(t *testing.T) {
	for _, x := range []struct{ delay, want int }{
		{math.MinInt, 682}, {math.MinInt + 1, 682}, {-1<<62 - 1, 682}, {-1 << 62, 682}, {-1 << 40, 682}, {-4, 682}, {-1, 682}, {0, 682},
		{1, 683}, {4, 683}, {5, 684}, {8, 684}, {9, 685}, {80, 702}, {81, 703}, {api.MaxDelay, 17066},
		{1<<40 - 1, 274877907626}, {1 << 40, 274877907626},
	} {
		if got := setup.Least(x.delay); got != x.want {
			t.Errorf("Least(%d) = %d, want %d", x.delay, got, x.want)
		}
	}
}

// upTo are numbers up to 2^40, rising: all the small ones, those about each power of two, and some between.
func upTo() []int {
	var l []int
	for n := -100; n < 1<<14; n++ {
		l = append(l, n)
	}
	r := rand.New(rand.NewSource(9))
	for p := 14; p < 40; p++ {
		for n := range 40 {
			l = append(l, 1<<p+n)
		}
		at := 1<<p + 40
		for at < 1<<(p+1)-40-1<<p/50 {
			at += r.Intn(1<<p/50) + 1
			l = append(l, at)
		}
		for n := 40; n > 0; n-- {
			l = append(l, 1<<(p+1)-n)
		}
	}
	return append(l, 1<<40)
}

// P9.2: up to 2^40 both are what the document's words come to, and of more never less.
func TestRising(t *testing.T) {
	unit, least, was := 0, 0, math.MinInt
	for _, n := range upTo() {
		if n <= was {
			t.Fatalf("%d stands behind %d", n, was)
		}
		u, l := setup.Unit(n), setup.Least(n)
		if u < unit || l < least {
			t.Fatalf("%d: Unit %d, Least %d; %d: %d, %d", n, u, l, was, unit, least)
		}
		if bigUnit(n).Cmp(big.NewInt(int64(u))) != 0 || bigLeast(n).Cmp(big.NewInt(int64(l))) != 0 {
			t.Fatalf("%d: Unit %d, Least %d; want %v, %v", n, u, l, bigUnit(n), bigLeast(n))
		}
		unit, least, was = u, l, n
	}
}

// P1, P2: beyond what is promised both end, and answer the same again.
func TestFarBeyond(t *testing.T) {
	for _, n := range []int{1<<40 + 1, 1 << 59, 1 << 60, 1 << 61, 1 << 62, math.MaxInt / 8, math.MaxInt/8 + 1, math.MaxInt / 2, math.MaxInt/2 + 1, math.MaxInt - 1, math.MaxInt} {
		if a, b := setup.Unit(n), setup.Unit(n); a != b {
			t.Errorf("Unit(%d) = %d, and then %d", n, a, b)
		}
		if a, b := setup.Least(n), setup.Least(n); a != b {
			t.Errorf("Least(%d) = %d, and then %d", n, a, b)
		}
	}
}

// P9.2: no unit that may be takes more ticks than that, with its noughts and its flag.
func TestUnitOnALine(t *testing.T) {
	for n := api.MinUnit; n <= api.MaxUnit; n++ {
		for _, b := range []byte{0x00, 0xff, 0x1f, 0x3e, 0x7c, 0xf8, 0x5a} {
			bits, e := flag.Frame(bytes.Repeat([]byte{b}, n-2))
			if e != api.OK {
				t.Fatalf("Frame of %d: %d", n-2, e)
			}
			if most := 8 * setup.Unit(n); len(bits) > most {
				t.Errorf("%d octets of %02x take %d bits, at most %d", n, b, len(bits), most)
			}
		}
	}
}

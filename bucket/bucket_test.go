package bucket_test

import (
	"math"
	"math/rand"
	"slices"
	"testing"

	"signalman/bucket"
)

// units: so many, all wrong, or all right.
func units(n int, wrong bool) []bool { return slices.Repeat([]bool{wrong}, n) }

// wrong, right: so many of them.
func wrong(n int) []bool { return units(n, true) }
func right(n int) []bool { return units(n, false) }

// each: so many units, wrong at the places that are one of these within each so many.
func each(n, many int, places ...int) []bool {
	l := right(n)
	for i := range l {
		l[i] = slices.Contains(places, i%many)
	}
	return l
}

// model is a Leak by places: it keeps from which unit on the 256 are counted, and no count of them.
type model struct {
	n, place, from int
}

func (m *model) unit(wrong bool) bool {
	if m.n > 0 && m.place-m.from == 256 {
		m.n--
		m.from = m.place
	}
	if wrong && m.n == 0 {
		m.from = m.place
	}
	if wrong {
		m.n++
	}
	m.place++
	return m.n >= 64
}

// seen is what the Leak's Seen is, behind the last unit.
func (m *model) seen() int {
	if m.n == 0 {
		return 0
	}
	return m.place - 1 - m.from
}

// first: at which place the model first is there; -1: it never is.
func first(wrong []bool) int {
	m := &model{}
	for i, w := range wrong {
		if m.unit(w) {
			return i
		}
	}
	return -1
}

// P8.1, P8.3: the numbers.
func TestNumbers(t *testing.T) {
	if bucket.Limit != 64 || bucket.Forget != 256 || bucket.Quick != 1 || bucket.Normal != 4 || bucket.Tries != 5 {
		t.Error(bucket.Limit, bucket.Forget, bucket.Quick, bucket.Normal, bucket.Tries)
	}
}

// P8.1: Leak.Unit, worked out by hand.
func TestLeakUnit(t *testing.T) {
	type leak = bucket.Leak
	for _, x := range []struct {
		l     leak
		wrong bool
		want  leak
		there bool
	}{
		// None is counted: Seen stays as it is, or is 0.
		{leak{0, 0}, false, leak{0, 0}, false},
		{leak{0, 0}, true, leak{1, 0}, false},
		{leak{0, 17}, false, leak{0, 17}, false},
		{leak{0, 17}, true, leak{1, 0}, false},
		{leak{0, 255}, false, leak{0, 255}, false},
		{leak{0, 255}, true, leak{1, 0}, false},
		// Some are.
		{leak{1, 0}, false, leak{1, 1}, false},
		{leak{1, 0}, true, leak{2, 1}, false},
		{leak{5, 100}, false, leak{5, 101}, false},
		{leak{5, 100}, true, leak{6, 101}, false},
		// The one ahead of that at which one is forgotten.
		{leak{1, 254}, false, leak{1, 255}, false},
		{leak{1, 254}, true, leak{2, 255}, false},
		{leak{2, 254}, false, leak{2, 255}, false},
		{leak{2, 254}, true, leak{3, 255}, false},
		{leak{62, 254}, true, leak{63, 255}, false},
		{leak{63, 254}, true, leak{64, 255}, true},
		// One is forgotten, and the unit itself counts then.
		{leak{1, 255}, false, leak{0, 0}, false},
		{leak{1, 255}, true, leak{1, 0}, false},
		{leak{2, 255}, false, leak{1, 0}, false},
		{leak{2, 255}, true, leak{2, 0}, false},
		{leak{63, 255}, false, leak{62, 0}, false},
		{leak{63, 255}, true, leak{63, 0}, false},
		{leak{64, 255}, false, leak{63, 0}, false},
		{leak{64, 255}, true, leak{64, 0}, true},
		// At Limit, and above it: it is there whatever the unit is.
		{leak{62, 10}, false, leak{62, 11}, false},
		{leak{62, 10}, true, leak{63, 11}, false},
		{leak{63, 10}, false, leak{63, 11}, false},
		{leak{63, 10}, true, leak{64, 11}, true},
		{leak{64, 10}, false, leak{64, 11}, true},
		{leak{64, 10}, true, leak{65, 11}, true},
		{leak{65, 255}, false, leak{64, 0}, true},
		{leak{100, 255}, false, leak{99, 0}, true},
		{leak{100, 255}, true, leak{100, 0}, true},
		{leak{1000, 3}, false, leak{1000, 4}, true},
		// Leaks that no units come to: the words hold of them, too.
		{leak{1, 256}, false, leak{1, 257}, false},
		{leak{1, -1}, false, leak{1, 0}, false},
		{leak{-1, 3}, false, leak{-1, 4}, false},
		{leak{-1, 3}, true, leak{0, 4}, false},
		{leak{-1, 255}, true, leak{-1, 0}, false},
	} {
		l := x.l
		if got, there := l.Unit(x.wrong); got != x.want || there != x.there {
			t.Errorf("%v.Unit(%v) = %v, %v, want %v, %v", x.l, x.wrong, got, there, x.want, x.there)
		}
		if l != x.l {
			t.Errorf("%v.Unit(%v) has changed it: %v", x.l, x.wrong, l)
		}
	}
}

// P8.1: Units, at the edges.
func TestUnits(t *testing.T) {
	for _, x := range []struct {
		what string
		l    []bool
		want int
	}{
		{"none", nil, -1},
		{"an empty list", []bool{}, -1},
		{"one that is right", right(1), -1},
		{"one that is wrong", wrong(1), -1},
		{"none that is wrong", right(100000), -1},
		{"63 wrong", wrong(63), -1},
		{"64 wrong", wrong(64), 63},
		{"65 wrong", wrong(65), 63},
		{"1000 wrong", wrong(1000), 63},
		{"63 wrong, 1 right", slices.Concat(wrong(63), right(1)), -1},
		{"63 wrong, 1 right, 1 wrong", slices.Concat(wrong(63), right(1), wrong(1)), 64},
		{"63 wrong, 192 right, 1 wrong", slices.Concat(wrong(63), right(192), wrong(1)), 255},
		{"63 wrong, 193 right, 1 wrong", slices.Concat(wrong(63), right(193), wrong(1)), -1},
		{"63 wrong, 193 right, 2 wrong", slices.Concat(wrong(63), right(193), wrong(2)), 257},
		{"10 right, 64 wrong", slices.Concat(right(10), wrong(64)), 73},
		{"255 right, 64 wrong", slices.Concat(right(255), wrong(64)), 318},
		{"256 right, 64 wrong", slices.Concat(right(256), wrong(64)), 319},
		{"1000 right, 63 wrong", slices.Concat(right(1000), wrong(63)), -1},
		{"1000 right, 64 wrong", slices.Concat(right(1000), wrong(64)), 1063},
		{"10 wrong, 5 right, 64 wrong", slices.Concat(wrong(10), right(5), wrong(64)), 68},
		{"1 wrong, 190 right, 64 wrong", slices.Concat(wrong(1), right(190), wrong(64)), 253},
		{"1 wrong, 200 right, 64 wrong", slices.Concat(wrong(1), right(200), wrong(64)), 264},
		{"1 wrong, 254 right, 64 wrong", slices.Concat(wrong(1), right(254), wrong(64)), 318},
		{"1 wrong, 255 right, 64 wrong", slices.Concat(wrong(1), right(255), wrong(64)), 319},
		{"1 wrong, 256 right, 63 wrong", slices.Concat(wrong(1), right(256), wrong(63)), -1},
		{"1 wrong, 256 right, 64 wrong", slices.Concat(wrong(1), right(256), wrong(64)), 320},
		{"two in each 256, side by side", each(20000, 256, 0, 1), 62*256 + 1},
		{"two in each 256, apart", each(20000, 256, 0, 128), 62*256 + 128},
		{"two in each 256, one too few", each(62*256+1, 256, 0, 1), -1},
		// A wrong one each 255 units is one more than is forgotten in each 256 times 255.
		{"one in each 255", each(5000000, 255, 0), 255 * (62*256 + 1)},
		{"one in each 256", each(5000000, 256, 0), -1},
	} {
		was := slices.Clone(x.l)
		if got := bucket.Units(x.l); got != x.want {
			t.Errorf("%s: %d, want %d", x.what, got, x.want)
		}
		if !slices.Equal(x.l, was) {
			t.Errorf("%s: what was handed in has changed", x.what)
		}
	}
}

// P8.1, P2: long plays: Leak.Unit and Units against the model, at all rates of wrong units; and on beyond Limit.
func TestLeakPlays(t *testing.T) {
	for seed := range 400 {
		r := rand.New(rand.NewSource(int64(seed)))
		rate := 1 + r.Intn(400)
		l := right(20000)
		for i := range l {
			l[i] = r.Intn(rate) == 0
		}
		if got, want := bucket.Units(l), first(l); got != want {
			t.Fatalf("seed %d: %d, want %d", seed, got, want)
		}
		x, m := bucket.Leak{}, &model{}
		for i, w := range l {
			got, there := x.Unit(w)
			again, too := x.Unit(w)
			want := m.unit(w)
			if got != again || there != too {
				t.Fatalf("seed %d, unit %d: %v, and then %v", seed, i, got, again)
			}
			if got != (bucket.Leak{N: m.n, Seen: m.seen()}) || there != want {
				t.Fatalf("seed %d, unit %d: %v, %v, want N %d, Seen %d, %v", seed, i, got, there, m.n, m.seen(), want)
			}
			x = got
		}
	}
}

// P8.1: Units is the place at which a Leak, unit by unit, first is there: all that stands behind that counts no more.
func TestUnitsIsTheFirst(t *testing.T) {
	r := rand.New(rand.NewSource(3))
	for range 300 {
		l := right(3000)
		for i := range l {
			l[i] = r.Intn(20) == 0
		}
		place := bucket.Units(l)
		if place < 0 {
			t.Fatal("so many wrong ones, and it never is")
		}
		if n := bucket.Units(l[:place]); n != -1 {
			t.Fatalf("%d, and without that one %d", place, n)
		}
		if n := bucket.Units(l[:place+1]); n != place {
			t.Fatalf("%d, and up to that one %d", place, n)
		}
	}
}

// reached is all Leaks that units come to, from a zero one on, with at most so many counted.
func reached(most int) []bucket.Leak {
	all := []bucket.Leak{{}}
	known := map[bucket.Leak]bool{{}: true}
	for i := 0; i < len(all); i++ {
		for _, w := range []bool{false, true} {
			if l, _ := all[i].Unit(w); l.N <= most && !known[l] {
				known[l] = true
				all = append(all, l)
			}
		}
	}
	return all
}

// P8.2, P8: 64 that are wrong one behind the other bring it there, of every Leak that units come to.
func TestManyWrongEndIt(t *testing.T) {
	all := reached(70)
	if len(all) < 60*256 {
		t.Fatalf("only %d Leaks", len(all))
	}
	for _, from := range all {
		l, there, once := from, false, false
		for range 64 {
			l, there = l.Unit(true)
			once = once || there
		}
		if !once || !there {
			t.Fatalf("%v: 64 wrong ones, and %v, %v", from, l, there)
		}
	}
	l, there := bucket.Leak{}, false
	for range 63 {
		if l, there = l.Unit(true); there {
			t.Fatalf("of a zero one: %v", l)
		}
	}
}

// P8.2, P8: behind whatever came, 64 that are wrong end it, at the last of them or sooner.
func TestManyWrongEndUnits(t *testing.T) {
	r := rand.New(rand.NewSource(5))
	for range 2000 {
		ahead := right(r.Intn(2000))
		rate := 1 + r.Intn(300)
		for i := range ahead {
			ahead[i] = r.Intn(rate) == 0
		}
		place := bucket.Units(slices.Concat(ahead, wrong(64), right(10)))
		if place < 0 || place > len(ahead)+63 {
			t.Fatalf("behind %d, one in %d: %d", len(ahead), rate, place)
		}
	}
}

// P8.2, P8: one wrong unit in any 256, at the least distance from the one ahead or further on, never ends it.
func TestFewWrongNeverEndIt(t *testing.T) {
	for place := range 256 {
		if n := bucket.Units(each(100*256, 256, place)); n != -1 {
			t.Fatalf("one in 256, at %d: %d", place, n)
		}
	}
	if n := bucket.Units(each(10000*256, 256, 0)); n != -1 {
		t.Fatalf("one in 256, for long: %d", n)
	}
	for seed := range 100 {
		r := rand.New(rand.NewSource(int64(seed)))
		more := 1 + r.Intn(300)
		l := right(100000)
		for i := r.Intn(256); i < len(l); i += 256 + r.Intn(more) {
			l[i] = true
		}
		if n := bucket.Units(l); n != -1 {
			t.Fatalf("seed %d: %d", seed, n)
		}
		x := bucket.Leak{}
		for i, w := range l {
			there := false
			if x, there = x.Unit(w); there || x.N > 1 {
				t.Fatalf("seed %d, unit %d: %v, %v", seed, i, x, there)
			}
		}
	}
}

// P8.3: Most, which hangs on Hurry alone.
func TestMost(t *testing.T) {
	for _, n := range []int{math.MinInt, -1, 0, 1, 3, 4, math.MaxInt} {
		for _, tries := range []int{math.MinInt, -1, 0, 4, 5, math.MaxInt} {
			if got := (bucket.Proof{Hurry: true, N: n, Tries: tries}).Most(); got != 1 {
				t.Errorf("in a hurry: %d", got)
			}
			if got := (bucket.Proof{N: n, Tries: tries}).Most(); got != 4 {
				t.Errorf("not in a hurry: %d", got)
			}
		}
	}
}

// P8.3: Proof.Unit, worked out by hand.
func TestProofUnit(t *testing.T) {
	type proof = bucket.Proof
	for _, x := range []struct {
		p          proof
		wrong      bool
		want       proof
		anew, over bool
	}{
		// Right units change nothing, however often it was given up.
		{proof{false, 0, 0}, false, proof{false, 0, 0}, false, false},
		{proof{false, 3, 0}, false, proof{false, 3, 0}, false, false},
		{proof{false, 3, 4}, false, proof{false, 3, 4}, false, false},
		{proof{false, 3, 5}, false, proof{false, 3, 5}, false, false},
		{proof{false, 0, 9}, false, proof{false, 0, 9}, false, false},
		{proof{true, 0, 0}, false, proof{true, 0, 0}, false, false},
		{proof{true, 0, 4}, false, proof{true, 0, 4}, false, false},
		{proof{true, 0, 5}, false, proof{true, 0, 5}, false, false},
		// Wrong ones below Most.
		{proof{false, 0, 0}, true, proof{false, 1, 0}, false, false},
		{proof{false, 1, 0}, true, proof{false, 2, 0}, false, false},
		{proof{false, 2, 0}, true, proof{false, 3, 0}, false, false},
		{proof{false, 2, 3}, true, proof{false, 3, 3}, false, false},
		{proof{false, 0, 4}, true, proof{false, 1, 4}, false, false},
		{proof{false, 2, 4}, true, proof{false, 3, 4}, false, false},
		{proof{false, 2, 5}, true, proof{false, 3, 5}, false, false},
		{proof{false, 0, 9}, true, proof{false, 1, 9}, false, false},
		// At Most.
		{proof{false, 3, 0}, true, proof{false, 0, 1}, true, false},
		{proof{false, 3, 1}, true, proof{false, 0, 2}, true, false},
		{proof{false, 3, 2}, true, proof{false, 0, 3}, true, false},
		{proof{false, 3, 3}, true, proof{false, 0, 4}, true, false},
		{proof{false, 3, 4}, true, proof{false, 0, 5}, true, true},
		{proof{false, 3, 5}, true, proof{false, 0, 6}, true, true},
		{proof{false, 3, 99}, true, proof{false, 0, 100}, true, true},
		{proof{true, 0, 0}, true, proof{true, 0, 1}, true, false},
		{proof{true, 0, 3}, true, proof{true, 0, 4}, true, false},
		{proof{true, 0, 4}, true, proof{true, 0, 5}, true, true},
		{proof{true, 0, 5}, true, proof{true, 0, 6}, true, true},
		{proof{true, 0, 99}, true, proof{true, 0, 100}, true, true},
		// An N below 0 is below Most, too.
		{proof{false, -1, 0}, true, proof{false, 0, 0}, false, false},
		{proof{false, -1, 4}, false, proof{false, -1, 4}, false, false},
		{proof{true, -1, 4}, true, proof{true, 0, 4}, false, false},
		{proof{true, -1, 4}, false, proof{true, -1, 4}, false, false},
	} {
		p := x.p
		if got, anew, over := p.Unit(x.wrong); got != x.want || anew != x.anew || over != x.over {
			t.Errorf("%v.Unit(%v) = %v, %v, %v, want %v, %v, %v", x.p, x.wrong, got, anew, over, x.want, x.anew, x.over)
		}
		if p != x.p {
			t.Errorf("%v.Unit(%v) has changed it: %v", x.p, x.wrong, p)
		}
	}
}

// P8.3, P2: long plays: of all wrong units each fourth (in a hurry: each) gives it up, and from the fifth time on that is too often.
func TestProofPlays(t *testing.T) {
	for seed := range 400 {
		r := rand.New(rand.NewSource(int64(seed)))
		hurry, most := seed%2 == 0, 4
		if hurry {
			most = 1
		}
		rate := 1 + r.Intn(20)
		p, all := bucket.Proof{Hurry: hurry}, 0
		for i := range 1000 {
			w := r.Intn(rate) == 0
			if w {
				all++
			}
			want := bucket.Proof{Hurry: hurry, N: all % most, Tries: all / most}
			up := w && all%most == 0
			often := up && all >= 5*most
			got, anew, over := p.Unit(w)
			if got != want || anew != up || over != often {
				t.Fatalf("seed %d, unit %d: %v, %v, %v, want %v, %v, %v", seed, i, got, anew, over, want, up, often)
			}
			p = got
		}
	}
}

// P1: no call panics, whatever the fields hold.
func TestAnyFields(t *testing.T) {
	odd := []int{math.MinInt, math.MinInt + 1, -256, -1, 0, 1, 4, 63, 64, 255, 256, math.MaxInt - 1, math.MaxInt}
	for _, a := range odd {
		for _, b := range odd {
			for _, w := range []bool{false, true} {
				bucket.Leak{N: a, Seen: b}.Unit(w)
				for _, hurry := range []bool{false, true} {
					bucket.Proof{Hurry: hurry, N: a, Tries: b}.Unit(w)
				}
			}
		}
	}
}

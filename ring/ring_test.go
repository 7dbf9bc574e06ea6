package ring_test

import (
	"math"
	"slices"
	"testing"

	"signalman/ring"
)

// P1.1: At, of numbers below 0 and above 127 too.
func TestAt(t *testing.T) {
	for _, c := range []struct {
		n    int
		want uint8
	}{
		{0, 0}, {1, 1}, {127, 127}, {128, 0}, {129, 1}, {255, 127}, {256, 0}, {300, 44},
		{-1, 127}, {-2, 126}, {-127, 1}, {-128, 0}, {-129, 127}, {-256, 0}, {-300, 84},
		{math.MaxInt, 127}, {math.MaxInt - 127, 0}, {math.MinInt, 0}, {math.MinInt + 1, 1},
	} {
		if got := ring.At(c.n); got != c.want {
			t.Errorf("At(%d) = %d, want %d", c.n, got, c.want)
		}
	}
	if ring.Size != 128 {
		t.Errorf("Size = %d", ring.Size)
	}
	want := uint8(0)
	for n := -4 * 128; n <= 4*128; n++ {
		if got := ring.At(n); got != want {
			t.Fatalf("At(%d) = %d, want %d", n, got, want)
		}
		if want++; want == 128 {
			want = 0
		}
	}
}

// P1.1: Next, Prev: one on, one back; of numbers above 127 the rest by 128 counts.
func TestNextPrev(t *testing.T) {
	for n := range 256 {
		next, prev := uint8((n+1)%128), uint8((n+127)%128)
		if got := ring.Next(uint8(n)); got != next {
			t.Errorf("Next(%d) = %d, want %d", n, got, next)
		}
		if got := ring.Prev(uint8(n)); got != prev {
			t.Errorf("Prev(%d) = %d, want %d", n, got, prev)
		}
	}
}

// gap counts steps, as the document says it.
func gap(from, to int) int {
	from, to = from%128, to%128
	n := 0
	for from != to {
		from = (from + 1) % 128
		n++
	}
	return n
}

// gaps is gap of all pairs, so that it isn't counted anew for each triple.
func gaps() (all [256][256]int) {
	for a := range 256 {
		for b := range 256 {
			all[a][b] = gap(a, b)
		}
	}
	return all
}

// P1.1: Gap of all pairs: 0 to 127 Nexts.
func TestGap(t *testing.T) {
	if ring.Gap(126, 1) != 3 || ring.Gap(1, 126) != 125 || ring.Gap(1, 0) != 127 || ring.Gap(0, 128) != 0 {
		t.Error("Gap: an example")
	}
	want := gaps()
	for a := range 256 {
		for b := range 256 {
			if got := ring.Gap(uint8(a), uint8(b)); got != want[a][b] {
				t.Fatalf("Gap(%d, %d) = %d, want %d", a, b, got, want[a][b])
			}
		}
	}
}

// P1.1: Within of all triples.
func TestWithin(t *testing.T) {
	if !ring.Within(127, 126, 1) || ring.Within(2, 126, 1) || ring.Within(125, 126, 1) || !ring.Within(5, 5, 5) || ring.Within(6, 5, 5) {
		t.Error("Within: an example")
	}
	all := gaps()
	for first := range 256 {
		for last := range 256 {
			for n := range 256 {
				want := all[first][n] <= all[first][last]
				if got := ring.Within(uint8(n), uint8(first), uint8(last)); got != want {
					t.Fatalf("Within(%d, %d, %d) = %v", n, first, last, got)
				}
			}
		}
	}
}

// P1.1: Between of all pairs: first and all Nexts up to last, each below 128.
func TestBetween(t *testing.T) {
	for _, c := range []struct {
		first, last uint8
		want        []uint8
	}{
		{126, 1, []uint8{126, 127, 0, 1}},
		{254, 129, []uint8{126, 127, 0, 1}},
		{5, 5, []uint8{5}},
		{5, 133, []uint8{5}},
		{133, 5, []uint8{5}},
		{255, 255, []uint8{127}},
		{127, 0, []uint8{127, 0}},
	} {
		if got := ring.Between(c.first, c.last); !slices.Equal(got, c.want) {
			t.Errorf("Between(%d, %d) = %v, want %v", c.first, c.last, got, c.want)
		}
	}
	for first := range 256 {
		for last := range 256 {
			want := []uint8{uint8(first % 128)}
			for n := first % 128; n != last%128; {
				n = (n + 1) % 128
				want = append(want, uint8(n))
			}
			if got := ring.Between(uint8(first), uint8(last)); !slices.Equal(got, want) {
				t.Fatalf("Between(%d, %d) = %v, want %v", first, last, got, want)
			}
		}
	}
	if n := len(ring.Between(1, 0)); n != 128 {
		t.Errorf("Between(1, 0) has %d", n)
	}
}

// P1: no number, however far off, makes a call panic or go on for ever.
func TestEnds(t *testing.T) {
	for _, n := range []int{math.MinInt, math.MinInt + 1, -1, 0, 1, math.MaxInt - 1, math.MaxInt} {
		if got := ring.At(n); got > 127 {
			t.Errorf("At(%d) = %d", n, got)
		}
	}
	for _, a := range []uint8{0, 127, 128, 255} {
		for _, b := range []uint8{0, 127, 128, 255} {
			ring.Next(a)
			ring.Prev(a)
			ring.Gap(a, b)
			ring.Within(a, b, a)
			ring.Between(a, b)
		}
	}
}

// P2: an answer hangs on the arguments alone, not on what became of an earlier answer.
func TestAnswersAreNew(t *testing.T) {
	first := ring.Between(126, 1)
	longer := append(first, 99)
	second := ring.Between(126, 1)
	for i := range first {
		first[i] = 77
	}
	longer[0] = 78
	want := []uint8{126, 127, 0, 1}
	if !slices.Equal(second, want) || !slices.Equal(ring.Between(126, 1), want) {
		t.Error("Between: an answer shares memory with another one")
	}
}

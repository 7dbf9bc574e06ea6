package stuff_test

import (
	"strings"
	"testing"

	"signalman/api"
	"signalman/stuff"
	"signalman/tape"
)

// bits makes a tape of a text of 0 and 1, without Parse.
func bits(s string) tape.Tape {
	var t tape.Tape
	for i := range len(s) {
		t = append(t, s[i] == '1')
	}
	return t
}

// texts is all texts of 0 and 1 up to a length, the empty one too.
func texts(most int) []string {
	all := []string{""}
	for i := 0; i < len(all); i++ {
		if len(all[i]) < most {
			all = append(all, all[i]+"0", all[i]+"1")
		}
	}
	return all
}

// ones is a text of so many ones.
func ones(n int) string { return strings.Repeat("1", n) }

// long is texts that are longer than those which are all gone through: runs of every length, at the beginning, in the middle and at the end.
func long() []string {
	var all []string
	for n := range 40 {
		all = append(all, ones(n), "0"+ones(n), ones(n)+"0", "10"+ones(n)+"01", ones(n)+"0"+ones(40-n))
	}
	mixed := ""
	for n := range 30 {
		mixed += ones(n) + "0"
	}
	return append(all, mixed, strings.Repeat("10", 500), strings.Repeat("0", 2000), ones(2232))
}

// stuffed is Put's answer by its words: five ones, found from the left on and each but once, and a nought behind them.
func stuffed(s string) string { return strings.ReplaceAll(s, "11111", "111110") }

// P4.1: Put: the chapter's example, and the edges: no bits, runs about five and ten, at the beginning, in the middle and at the end, counted anew behind a nought that was put in; Size of each; and Take back.
func TestEdges(t *testing.T) {
	for _, c := range []struct {
		in, want string
		size     int
	}{
		{"", "", 0},
		{"0", "0", 0},
		{"1", "1", 0},
		{"111110", "1111100", 1},
		{"1111", "1111", 0},
		{"11111", "111110", 1},
		{"111111", "1111101", 1},
		{"111111111", "1111101111", 1},
		{"1111111111", "111110111110", 2},
		{"11111111111", "1111101111101", 2},
		{"0000011111", "00000111110", 1},
		{"0111101", "0111101", 0},
		{"01111101", "011111001", 1},
		{"01111110", "011111010", 1},
		{"11110111101111", "11110111101111", 0},
		{"1111101111", "11111001111", 1},
		{"11111011111", "1111100111110", 2},
		{"1111110111110", "111110101111100", 2},
		{"111111111111111", "111110111110111110", 3},
	} {
		x := bits(c.in)
		put := stuff.Put(x)
		if put.Text() != c.want {
			t.Errorf("Put(%s) = %s, want %s", c.in, put.Text(), c.want)
		}
		if got := stuff.Size(x); got != c.size {
			t.Errorf("Size(%s) = %d, want %d", c.in, got, c.size)
		}
		if got, e := stuff.Take(bits(c.want)); e != api.OK || got.Text() != c.in {
			t.Errorf("Take(%s) = %s, %d, want %s", c.want, got.Text(), e, c.in)
		}
	}
}

// P4.1: of all bits up to eighteen, and of longer ones: Put by its words; Size is what it adds; Take of Put is what was put.
func TestPutTake(t *testing.T) {
	for _, s := range append(texts(18), long()...) {
		x := bits(s)
		put := stuff.Put(x)
		if got, want := put.Text(), stuffed(s); got != want {
			t.Fatalf("Put(%s) = %s, want %s", s, got, want)
		}
		if got := stuff.Size(x); got != len(put)-len(x) {
			t.Fatalf("Size(%s) = %d, and Put adds %d", s, got, len(put)-len(x))
		}
		if back, e := stuff.Take(put); e != api.OK || !tape.Same(back, x) {
			t.Fatalf("Take(%s) = %s, %d, want %s", put.Text(), back.Text(), e, s)
		}
	}
}

// P4.2: nowhere in Put(t) stand six ones, and five do where t has them.
func TestNowhereSix(t *testing.T) {
	for _, s := range append(texts(18), long()...) {
		put := stuff.Put(bits(s)).Text()
		if strings.Contains(put, "111111") {
			t.Fatalf("six ones: Put(%s) = %s", s, put)
		}
		if strings.Contains(s, "11111") != strings.Contains(put, "11111") {
			t.Fatalf("five ones: Put(%s) = %s", s, put)
		}
	}
}

// P4.1: bits that Put never makes: ErrForm, else ErrShort, and no bits beside them.
func TestTakeRefuses(t *testing.T) {
	for _, c := range []struct {
		in   string
		want api.Errno
	}{
		{"111111", api.ErrForm},
		{"1111110", api.ErrForm},
		{"01111110", api.ErrForm},
		{"1111111", api.ErrForm},
		{"11111111111", api.ErrForm},
		{"0000111111", api.ErrForm},
		{"1111101111110", api.ErrForm},
		{"111110111111", api.ErrForm},
		{"1111110111110", api.ErrForm},
		{"11111", api.ErrShort},
		{"011111", api.ErrShort},
		{"11111011111", api.ErrShort},
		{"1111100011111", api.ErrShort},
		// Both hold.
		{"111111011111", api.ErrForm},
		{"1111111011111", api.ErrForm},
		{"1111110000000000011111", api.ErrForm},
	} {
		if got, e := stuff.Take(bits(c.in)); e != c.want || len(got) != 0 {
			t.Errorf("Take(%s) = %s, %d, want %d", c.in, got.Text(), e, c.want)
		}
	}
}

// judged is Take's answer by its words, over texts.
func judged(s string) (string, api.Errno) {
	if strings.Contains(s, "111111") {
		return "", api.ErrForm
	}
	if strings.HasSuffix(s, "11111") {
		return "", api.ErrShort
	}
	return strings.ReplaceAll(s, "111110", "11111"), api.OK
}

// P4.1: Take of all bits up to eighteen, and of longer ones; what it takes is put as it was.
func TestTake(t *testing.T) {
	for _, s := range append(texts(18), long()...) {
		want, wrong := judged(s)
		got, e := stuff.Take(bits(s))
		if e != wrong || got.Text() != want {
			t.Fatalf("Take(%s) = %s, %d, want %s, %d", s, got.Text(), e, want, wrong)
		}
		if e == api.OK && stuff.Put(got).Text() != s {
			t.Fatalf("Put(%s) isn't %s", got.Text(), s)
		}
	}
}

// P1: nil, empty and long lists: every call ends, and none panics.
func TestEnds(t *testing.T) {
	for _, x := range []tape.Tape{nil, {}} {
		put := stuff.Put(x)
		taken, e := stuff.Take(x)
		if len(put) != 0 || len(taken) != 0 || e != api.OK || stuff.Size(x) != 0 {
			t.Errorf("no bits: %s, %s, %d, %d", put.Text(), taken.Text(), e, stuff.Size(x))
		}
	}
	many := bits(ones(1000003))
	if n := len(stuff.Put(many)); n != 1200003 {
		t.Errorf("Put has %d bits", n)
	}
	if n := stuff.Size(many); n != 200000 {
		t.Errorf("Size = %d", n)
	}
	if _, e := stuff.Take(many); e != api.ErrForm {
		t.Errorf("Take: %d", e)
	}
	if got, e := stuff.Take(make(tape.Tape, 1000003)); e != api.OK || len(got) != 1000003 {
		t.Errorf("Take has %d bits, %d", len(got), e)
	}
}

// P2: what stands behind a list's end, within its capacity, doesn't count, and isn't written over.
func TestBehindTheEnd(t *testing.T) {
	const text = "1111111111"
	whole := bits(text)
	four, five := whole[:4], whole[:5]
	if stuff.Put(four).Text() != "1111" || stuff.Put(five).Text() != "111110" || stuff.Size(four) != 0 || stuff.Size(five) != 1 {
		t.Error("bits behind the end count")
	}
	if got, e := stuff.Take(four); e != api.OK || got.Text() != "1111" {
		t.Errorf("Take(1111) = %s, %d", got.Text(), e)
	}
	if _, e := stuff.Take(five); e != api.ErrShort {
		t.Errorf("Take(11111): %d", e)
	}
	if whole.Text() != text {
		t.Errorf("written over: %s", whole.Text())
	}
}

// P2: an answer is new memory, and what is handed in isn't changed: to write over an answer, or append to it, changes neither an argument nor a later answer.
func TestAnswersAreNew(t *testing.T) {
	plain, full, coded := bits("0110"), bits("0111111"), bits("01111101")
	for range 2 {
		a, b := stuff.Put(plain), stuff.Put(full)
		c, _ := stuff.Take(plain)
		d, _ := stuff.Take(coded)
		none, empty := stuff.Put(nil), stuff.Put(plain[:0])
		if a.Text() != "0110" || b.Text() != "01111101" || c.Text() != "0110" || d.Text() != "0111111" || len(none)+len(empty) != 0 {
			t.Fatalf("%s, %s, %s, %s, %s, %s", a.Text(), b.Text(), c.Text(), d.Text(), none.Text(), empty.Text())
		}
		for _, l := range []tape.Tape{a, b, c, d, none, empty} {
			for i := range l {
				l[i] = !l[i]
			}
			_ = append(l, true, false, true)
		}
		if e, _ := stuff.Take(plain[:0]); len(append(e, true, false)) != 2 {
			t.Fatal("Take of no bits")
		}
	}
	if plain.Text() != "0110" || full.Text() != "0111111" || coded.Text() != "01111101" {
		t.Error("what was handed in is changed")
	}
}

package flag_test

import (
	"bytes"
	"fmt"
	"math/rand"
	"strings"
	"testing"

	"signalman/api"
	"signalman/flag"
	"signalman/rest"
	"signalman/tape"
)

// flagText is a flag's bits.
const flagText = "01111110"

// bits makes a tape of a text of 0 and 1, without Parse; blanks are passed by.
func bits(s string) tape.Tape {
	var t tape.Tape
	for i := range len(s) {
		if s[i] != ' ' {
			t = append(t, s[i] == '1')
		}
	}
	return t
}

// texts is all texts of 0 and 1 up to a length, the empty one too.
func texts(most int) []string {
	all := []string{""}
	for i := 0; i < len(all); i++ {
		if len(all[i]) < most {
			all = append(all, all[i]+"0", all[i]+"1")
		}
	}
	return all
}

// noughts, ones: a text of so many.
func noughts(n int) string { return strings.Repeat("0", n) }
func ones(n int) string    { return strings.Repeat("1", n) }

// plain is the bits of octets, the lowest of each first, as a text.
func plain(p []byte) string {
	var s strings.Builder
	for _, b := range p {
		for i := range 8 {
			s.WriteByte('0' + b>>i&1)
		}
	}
	return s.String()
}

// stuffed is bits with a nought behind each five ones.
func stuffed(s string) string { return strings.ReplaceAll(s, "11111", "111110") }

// framed is Frame's answer by its words, without the flag.
func framed(p []byte) string { return stuffed(plain(rest.With(p))) }

// judged is Judge's answer by its words, over texts.
func judged(s string) ([]byte, api.Errno) {
	if strings.Contains(s, "111111") || strings.HasSuffix(s, "11111") {
		return nil, api.ErrForm
	}
	s = strings.ReplaceAll(s, "111110", "11111")
	if len(s)%8 != 0 {
		return nil, api.ErrWhole
	}
	p := make([]byte, len(s)/8)
	for i := range s {
		p[i/8] |= (s[i] - '0') << (i % 8)
	}
	switch {
	case len(p) < 5:
		return nil, api.ErrShort
	case len(p) > 279:
		return nil, api.ErrLong
	case !rest.Right(p):
		return nil, api.ErrCheck
	}
	return p[:len(p)-2], api.OK
}

// same holds Judge against judged.
func same(t *testing.T, s string) {
	t.Helper()
	want, wrong := judged(s)
	got, e := flag.Judge(bits(s))
	if e != wrong || !bytes.Equal(got, want) {
		t.Fatalf("Judge(%s) = %x, %d, want %x, %d", s, got, e, want, wrong)
	}
}

// told is what is heard, as a text: R with the octets, W, L.
func told(all []api.Heard) string {
	var words []string
	for _, h := range all {
		switch h.Kind {
		case api.Right:
			words = append(words, fmt.Sprintf("R%x", h.P))
		case api.Wrong:
			words = append(words, fmt.Sprintf("W%x", h.P))
		case api.Lost:
			words = append(words, fmt.Sprintf("L%x", h.P))
		default:
			words = append(words, fmt.Sprintf("?%d", h.Kind))
		}
	}
	return strings.Join(words, " ")
}

// octets is some octets that hang on n alone.
func octets(n int) []byte {
	p := make([]byte, n)
	for i := range p {
		p[i] = byte(i*i*31 + n*7 + i)
	}
	return p
}

// P5.1: Flag, Block, and Frame of octets whose checks were worked out by hand, Judged back.
func TestFrame(t *testing.T) {
	if got := flag.Flag().Text(); got != flagText {
		t.Errorf("Flag() = %s", got)
	}
	if flag.Block != 16 {
		t.Errorf("Block = %d", flag.Block)
	}
	for _, c := range []struct {
		p    []byte
		want string
	}{
		{[]byte{1, 2, 0}, "10000000010000000000000000000101111100101"},
		{[]byte{0, 0, 0}, "0000000000000000000000000011001101100011"},
		{[]byte{0xff, 0xff, 0xff}, "111110111110111110111110111110110000100001111"},
		{[]byte{0x81, 2, 1, 2}, "100000010100000010000000010000001001111001000010"},
		// The check ends with five ones: a nought is put in ahead of the flag.
		{[]byte{0, 0x1c, 0}, "000000000011100000000000101111101010111110"},
	} {
		f, e := flag.Frame(c.p)
		if e != api.OK || f.Text() != c.want+flagText {
			t.Errorf("Frame(%x) = %s, %d, want %s", c.p, f.Text(), e, c.want+flagText)
		}
		p, e := flag.Judge(bits(c.want))
		if e != api.OK || !bytes.Equal(p, c.p) {
			t.Errorf("Judge(%s) = %x, %d, want %x", c.want, p, e, c.p)
		}
	}
}

// P5.1: Frame of every number of octets from 3 to 277, by its words, and Judged back; of fewer ErrShort, of more ErrLong, and no bits beside them.
func TestFrameSizes(t *testing.T) {
	for n := range 300 {
		for _, p := range [][]byte{octets(n), make([]byte, n), bytes.Repeat([]byte{0xff}, n)} {
			f, e := flag.Frame(p)
			if n < 3 || n > 277 {
				want := api.ErrShort
				if n > 277 {
					want = api.ErrLong
				}
				if e != want || len(f) != 0 {
					t.Fatalf("Frame of %d octets: %s, %d, want %d", n, f.Text(), e, want)
				}
				continue
			}
			if e != api.OK || f.Text() != framed(p)+flagText {
				t.Fatalf("Frame of %d octets: %s, %d", n, f.Text(), e)
			}
			back, e := flag.Judge(f[:len(f)-8])
			if e != api.OK || !bytes.Equal(back, p) {
				t.Fatalf("Judge of %d octets: %x, %d", n, back, e)
			}
		}
	}
}

// P5.1: Judge's errors, each alone and where several hold, in their order; and no octets beside them.
func TestJudgeRefuses(t *testing.T) {
	good := framed([]byte{1, 2, 0})
	whole := func(n int) string { return stuffed(plain(rest.With(octets(n)))) }
	for _, c := range []struct {
		what, in string
		want     api.Errno
	}{
		{"no bits", "", api.ErrShort},
		{"one bit", "0", api.ErrWhole},
		{"seven bits", noughts(7), api.ErrWhole},
		{"one octet", noughts(8), api.ErrShort},
		{"a one behind five", good + "111111", api.ErrForm},
		{"five ones at the end", noughts(35) + ones(5), api.ErrForm},
		{"whole but for a bit", good[:len(good)-1], api.ErrWhole},
		{"a bit too many", good + "0", api.ErrWhole},
		{"four octets with their check", whole(2), api.ErrShort},
		{"two octets with their check", whole(0), api.ErrShort},
		{"280 octets with their check", whole(278), api.ErrLong},
		{"281 octets with their check", whole(279), api.ErrLong},
		{"a wrong check", noughts(40), api.ErrCheck},
		{"a wrong check of 279 octets", noughts(8 * 279), api.ErrCheck},
		// Several of them hold.
		{"form, whole", "1111110", api.ErrForm},
		{"form at the end, whole", good + ones(5), api.ErrForm},
		{"form, short", "111111", api.ErrForm},
		{"form at the end, short", "00011111", api.ErrForm},
		{"form, long", noughts(8*280) + ones(6), api.ErrForm},
		{"form at the end, long", noughts(8*280-5) + ones(5), api.ErrForm},
		{"form, check", noughts(34) + ones(6), api.ErrForm},
		{"whole, short", noughts(31), api.ErrWhole},
		{"whole, long", noughts(8*280 + 1), api.ErrWhole},
		{"whole, check", noughts(41), api.ErrWhole},
		{"short, check", noughts(32), api.ErrShort},
		{"long, check", noughts(8 * 280), api.ErrLong},
	} {
		if got, e := flag.Judge(bits(c.in)); e != c.want || len(got) != 0 {
			t.Errorf("%s: %x, %d, want %d", c.what, got, e, c.want)
		}
		same(t, c.in)
	}
}

// P5.1: Judge by its words: of all bits up to sixteen; of units' bits with each of them turned, left out, or cut off there.
func TestJudge(t *testing.T) {
	for _, s := range texts(16) {
		same(t, s)
	}
	for _, n := range []int{3, 4, 9, 40} {
		for _, p := range [][]byte{octets(n), bytes.Repeat([]byte{0xff}, n), bytes.Repeat([]byte{0x7e}, n)} {
			s := framed(p)
			same(t, s)
			for i := range s {
				turned := []byte(s)
				turned[i] ^= 1
				same(t, string(turned))
				same(t, s[:i])
				same(t, s[i:])
				same(t, s[:i]+s[i+1:])
			}
		}
	}
}

// P5.2: what an Ear hears, and whether it is lost then: the edges that the chapter names, and those about them.
func TestEar(t *testing.T) {
	unit := framed([]byte{1, 2, 0}) + flagText
	for _, c := range []struct {
		what, in, want string
		lost           bool
	}{
		{"no bits", "", "", true},
		{"a nought", "0", "", true},
		{"a flag", "01111110", "", false},
		{"a flag but for its last bit", "0111111", "", true},
		{"a flag without its first nought", "1111110", "", false},
		{"five ones", "0111110", "", true},
		{"seven ones", "011111110", "", true},
		{"eight ones", "0111111110", "", true},
		{"a flag behind seven ones", "1111111 01111110", "", false},
		{"six ones more behind seven", "1111111 1111110", "", true},

		{"two flags", "01111110 01111110", "", false},
		{"flags with one nought between", "01111110 1111110 1111110", "", false},
		{"eight bits kept", "01111110 01111110 01111110", "", false},
		{"nine bits kept, the first a nought", "01111110 0 01111110", "W", false},
		{"nine bits kept, the first a one", "01111110 1 01111110", "W", false},
		{"nothing is kept behind a unit", flagText + " 0 01111110 01111110 1111110", "W", false},

		{"not lost: six ones", flagText + ones(6), "", false},
		{"not lost: seven ones", flagText + ones(7), "", true},
		{"not lost: eight ones", flagText + ones(8), "", true},
		{"not lost: seven ones behind bits", flagText + "0010" + ones(7), "", true},
		{"not lost: seven ones and a nought", flagText + ones(7) + "0", "", true},
		{"counted through: thirteen ones", flagText + ones(13) + "0", "", true},
		{"counted through: a flag behind a nought", flagText + ones(13) + flagText, "", false},
		{"counted through: six ones and one", flagText + "1111110" + ones(6), "", false},
		{"counted through: six ones and seven", flagText + "1111110" + ones(7), "", true},
		{"what was kept ahead of seven ones is gone", flagText + noughts(40) + ones(7) + "0" + flagText + flagText, "", false},

		{"a unit", flagText + unit, "R010200", false},
		{"a unit that no flag stands ahead of", unit, "", false},
		{"the same unit twice", flagText + unit + unit, "R010200 R010200", false},
		{"flags between", flagText + unit + flagText + flagText + "1111110" + unit, "R010200 R010200", false},
		{"a unit with a wrong bit, and a right one", flagText + "0" + unit[1:] + unit, "W R010200", false},
		{"a unit that lacks a bit, and a right one", flagText + unit[1:] + unit, "W R010200", false},
		{"half a unit", flagText + unit[:20], "", false},
		{"a unit that is broken off, and a right one", flagText + unit[:20] + ones(8) + flagText + unit, "R010200", false},
		{"a unit in which a flag stands", flagText + unit[:20] + flagText + unit[20:], "W W", false},
		{"a unit of four octets", flagText + framed([]byte{1, 2}) + flagText, "W", false},
		{"a unit of 280 octets", flagText + framed(octets(278)) + flagText, "W", false},
		{"a unit of 279 octets", flagText + framed(octets(277)) + flagText, fmt.Sprintf("R%x", octets(277)), false},
		{"a unit of 279 octets, ones", flagText + framed(bytes.Repeat([]byte{255}, 277)) + flagText, "R" + strings.Repeat("ff", 277), false},

		{"a nought: 2687 kept", flagText + noughts(2687), "", false},
		{"a nought: 2688 kept", flagText + noughts(2688), "", true},
		{"a nought behind ones: 2687 kept", flagText + noughts(2683) + "1110", "", false},
		{"a nought behind ones: 2688 kept", flagText + noughts(2684) + "1110", "", true},
		{"a one: 2688 kept", flagText + noughts(2687) + "1", "", false},
		{"six ones: 2693 kept", flagText + noughts(2687) + ones(6), "", false},
		{"seven ones: 2694 kept", flagText + noughts(2687) + ones(7), "", true},
		{"five ones and a nought: 2693 kept", flagText + noughts(2687) + "111110", "", true},
		{"a flag ends: 2687 kept", flagText + noughts(2680) + "1111110", "W", false},
		{"a flag ends: 2688 kept", flagText + noughts(2681) + "1111110", "W", false},
		{"a flag ends: 2694 kept", flagText + noughts(2687) + "1111110", "W", false},
		{"a flag ends: nothing is kept", flagText + noughts(2687) + "1111110" + noughts(2687), "W", false},

		{"at first: 127 bits", noughts(127), "", true},
		{"at first: 128 bits", noughts(128), "L", true},
		{"at first: 128 ones", ones(128), "L", true},
		{"at first: 255 bits", noughts(255), "L", true},
		{"at first: 256 bits", noughts(256), "L L", true},
		{"at first: 1279 bits", noughts(1279), "L L L L L L L L L", true},
		{"lost by a one: 127 bits", flagText + ones(7) + noughts(127), "", true},
		{"lost by a one: 128 bits", flagText + ones(7) + noughts(128), "L", true},
		{"lost by a one: 127 ones", flagText + ones(7) + ones(127), "", true},
		{"lost by a one: 128 ones", flagText + ones(7) + ones(128), "L", true},
		{"lost by a nought: 127 bits", flagText + noughts(2688) + noughts(127), "", true},
		{"lost by a nought: 128 bits", flagText + noughts(2688) + noughts(128), "L", true},
		{"counted anew: 127 bits", noughts(100) + flagText + ones(7) + noughts(127), "", true},
		{"counted anew: 128 bits", noughts(100) + flagText + ones(7) + noughts(128), "L", true},
		{"kept bits don't count", flagText + noughts(2000) + ones(7) + noughts(127), "", true},

		{"a flag's end would be bit 127", noughts(120) + "1111110", "", false},
		{"a flag's end would be bit 128", noughts(121) + "1111110", "", false},
		{"a flag's end would be bit 129", noughts(122) + "1111110", "L", false},
		{"a flag's end would be bit 256", noughts(249) + "1111110", "L", false},
		{"a flag's end would be bit 257", noughts(250) + "1111110", "L L", false},
		{"seven ones up to bit 128", noughts(121) + "1111111", "L", true},
		{"six ones about bit 128", noughts(125) + "111 1110", "L", false},
		{"seven ones about bit 128", noughts(124) + "1111 1110", "L", true},
		{"a flag's end would be bit 128 since it was lost", flagText + ones(7) + noughts(121) + "1111110", "", false},
		{"a flag's end would be bit 129 since it was lost", flagText + ones(7) + noughts(122) + "1111110", "L", false},
		{"lost, and a unit", flagText + ones(7) + noughts(130) + flagText + unit, "L R010200", false},
	} {
		e := &flag.Ear{}
		if got := told(e.Bits(bits(c.in))); got != c.want || e.Counting() != c.lost {
			t.Errorf("%s: %q, %v, want %q, %v", c.what, got, e.Counting(), c.want, c.lost)
		}
	}
}

// model is what an Ear hears with each bit of a text, by P5.2's words, and whether it is lost then: by places in the text, looked back from.
func model(s string) (heard []string, lost []bool) {
	seeks, from := true, 0
	for i := range len(s) {
		run := i - len(strings.TrimRight(s[:i], "1"))
		on, ends, h := s[i] == '1', s[i] == '0' && run == 6, ""
		size := i + 1 - from
		switch {
		case seeks && ends:
			seeks, from = false, i+1
		case seeks && size%128 == 0:
			h = "L"
		case seeks:
		case ends && size > 8:
			h = "W"
			if p, wrong := judged(s[from : i-7]); wrong == api.OK {
				h = fmt.Sprintf("R%x", p)
			}
			from = i + 1
		case ends:
			from = i + 1
		case on && run == 6, !on && size > 2687:
			seeks, from = true, i+1
		}
		heard, lost = append(heard, h), append(lost, seeks)
	}
	return heard, lost
}

// bitByBit holds an Ear against the model, with each bit from a place on.
func bitByBit(t *testing.T, s string, from int) {
	t.Helper()
	heard, lost := model(s)
	e := &flag.Ear{}
	e.Bits(bits(s[:from]))
	for i := from; i < len(s); i++ {
		h, ok := e.Bit(s[i] == '1')
		got := ""
		if ok {
			got = told([]api.Heard{h})
		} else if h.Kind != 0 || h.P != nil {
			t.Fatalf("%s: bit %d: false, and %v", s, i, h)
		}
		if got != heard[i] || e.Counting() != lost[i] {
			t.Fatalf("%s: bit %d: %q, %v, want %q, %v", s, i, got, e.Counting(), heard[i], lost[i])
		}
	}
}

// P5.2: all bits up to fourteen, at first, behind a flag, behind six and seven ones, and about the places where an Ear is lost or counts 128.
func TestEarAllBits(t *testing.T) {
	for _, ahead := range []string{"", flagText, flagText + ones(6), flagText + ones(7), noughts(118)} {
		for _, s := range texts(14) {
			bitByBit(t, ahead+s, len(ahead))
		}
	}
	for _, ahead := range []string{flagText + noughts(2682), flagText + ones(7) + noughts(118)} {
		for _, s := range texts(11) {
			bitByBit(t, ahead+s, len(ahead))
		}
	}
}

// stream is a line's bits, that hang on a seed: units, right ones and others, flags, runs of ones and of noughts.
func stream(seed int64, parts int) string {
	r := rand.New(rand.NewSource(seed))
	var s strings.Builder
	for range parts {
		p := make([]byte, r.Intn(20))
		r.Read(p)
		unit := framed(p)
		place := r.Intn(len(unit))
		switch r.Intn(9) {
		case 0, 1, 2:
			s.WriteString(unit + flagText)
		case 3:
			s.WriteString(unit[:place] + unit[place+1:] + flagText)
		case 4:
			s.WriteString(unit[:place])
		case 5:
			s.WriteString(flagText)
		case 6:
			s.WriteString(flagText[1:])
		case 7:
			s.WriteString("0" + ones(r.Intn(10)))
		case 8:
			s.WriteString(noughts(r.Intn(300)))
		}
	}
	s.WriteString(flagText + noughts(2600+r.Intn(200)) + ones(r.Intn(9)) + noughts(300) + flagText + framed(octets(9)) + flagText)
	return s.String()
}

// P5.2: lines of all kinds of parts.
func TestEarStreams(t *testing.T) {
	kinds := map[byte]int{}
	for seed := range int64(60) {
		s := stream(seed, 120)
		bitByBit(t, s, 0)
		for _, h := range (&flag.Ear{}).Bits(bits(s)) {
			kinds[h.Kind]++
		}
	}
	for _, k := range []byte{api.Right, api.Wrong, api.Lost} {
		if kinds[k] < 100 {
			t.Errorf("kind %d was heard %d times", k, kinds[k])
		}
	}
}

// P5.3: what is heard of bits is heard of them one by one, whole, cut in two at each place, and cut into parts of all sizes, empty ones too.
func TestCutAsOneLikes(t *testing.T) {
	for seed := range int64(5) {
		s := bits(stream(seed, 40))
		whole := &flag.Ear{}
		want := told(whole.Bits(s))
		if !strings.Contains(want, "R") || !strings.Contains(want, "W") || !strings.Contains(want, "L") {
			t.Fatalf("seed %d: %s", seed, want)
		}
		check := func(how string, e *flag.Ear, all []api.Heard) {
			t.Helper()
			if got := told(all); got != want || e.Counting() != whole.Counting() {
				t.Fatalf("seed %d, %s: %q, %v, want %q, %v", seed, how, got, e.Counting(), want, whole.Counting())
			}
		}
		one, all := &flag.Ear{}, []api.Heard(nil)
		for _, on := range s {
			if h, ok := one.Bit(on); ok {
				all = append(all, h)
			}
		}
		check("one by one", one, all)
		for i := range len(s) + 1 {
			e := &flag.Ear{}
			check("in two", e, append(e.Bits(s[:i]), e.Bits(s[i:])...))
		}
		r := rand.New(rand.NewSource(seed))
		for range 200 {
			e, all := &flag.Ear{}, []api.Heard(nil)
			for left, most := s, 1+r.Intn(400); len(left) > 0; {
				n := min(r.Intn(most+1), len(left))
				all = append(all, e.Bits(left[:n])...)
				all = append(all, e.Bits(nil)...)
				left = left[n:]
			}
			check("in parts", e, all)
		}
	}
}

// P1, and the rule of nil objects: of a nil Ear nothing is heard, and it is lost, whatever bits come.
func TestNilEar(t *testing.T) {
	var e *flag.Ear
	s := bits(flagText + framed(octets(5)) + flagText + noughts(3000))
	for _, on := range s {
		if h, ok := e.Bit(on); ok || h.Kind != 0 || h.P != nil || !e.Counting() {
			t.Fatalf("Bit: %v, %v, %v", h, ok, e.Counting())
		}
	}
	if l := e.Bits(s); len(l) != 0 || !e.Counting() {
		t.Errorf("Bits: %v, %v", l, e.Counting())
	}
	if l := e.Bits(nil); len(l) != 0 {
		t.Errorf("Bits(nil): %v", l)
	}
}

// P1: nil, empty and long lists: every call ends, and none panics.
func TestEnds(t *testing.T) {
	for _, p := range [][]byte{nil, {}} {
		if f, e := flag.Frame(p); len(f) != 0 || e != api.ErrShort {
			t.Errorf("Frame of nothing: %s, %d", f.Text(), e)
		}
	}
	for _, x := range []tape.Tape{nil, {}} {
		if p, e := flag.Judge(x); len(p) != 0 || e != api.ErrShort {
			t.Errorf("Judge of nothing: %x, %d", p, e)
		}
		e := &flag.Ear{}
		if l := e.Bits(x); len(l) != 0 || !e.Counting() {
			t.Errorf("Bits of nothing: %v", l)
		}
	}
	if f, e := flag.Frame(make([]byte, 1000003)); len(f) != 0 || e != api.ErrLong {
		t.Errorf("Frame: %d bits, %d", len(f), e)
	}
	many := make(tape.Tape, 1000003)
	if p, e := flag.Judge(many); len(p) != 0 || e != api.ErrWhole {
		t.Errorf("Judge: %d octets, %d", len(p), e)
	}
	if l := (&flag.Ear{}).Bits(many); len(l) != 1000003/128 {
		t.Errorf("Lost is heard %d times", len(l))
	}
	if l := (&flag.Ear{}).Bits(bits(ones(1000003))); len(l) != 1000003/128 {
		t.Errorf("Lost is heard %d times of ones", len(l))
	}
}

// P2: what stands behind a list's end, within its capacity, doesn't count, and isn't written over.
func TestBehindTheEnd(t *testing.T) {
	whole := []byte{1, 2, 0, 9, 9, 9, 9}
	if f, e := flag.Frame(whole[:3]); e != api.OK || f.Text() != framed([]byte{1, 2, 0})+flagText {
		t.Errorf("Frame: %s, %d", f.Text(), e)
	}
	if f, e := flag.Frame(whole[:2]); e != api.ErrShort {
		t.Errorf("Frame of two: %s, %d", f.Text(), e)
	}
	if !bytes.Equal(whole, []byte{1, 2, 0, 9, 9, 9, 9}) {
		t.Errorf("written over: %x", whole)
	}
	text := framed([]byte{1, 2, 0}) + flagText + ones(20)
	line := bits(text)
	unit := line[:len(text)-28]
	if p, e := flag.Judge(unit); e != api.OK || string(p) != "\x01\x02\x00" {
		t.Errorf("Judge: %x, %d", p, e)
	}
	e := &flag.Ear{}
	e.Bits(flag.Flag())
	if l := e.Bits(unit); len(l) != 0 || e.Counting() {
		t.Errorf("Bits: %v, %v", l, e.Counting())
	}
	if line.Text() != text {
		t.Errorf("written over: %s", line.Text())
	}
}

// spoil writes over octets, and behind their end.
func spoil(p []byte) {
	for i := range p {
		p[i] ^= 0xff
	}
	_ = append(p, 0xaa, 0xbb, 0xcc)
}

// turn writes over bits, and behind their end.
func turn(t tape.Tape) {
	for i := range t {
		t[i] = !t[i]
	}
	_ = append(t, true, false, true)
}

// P2: an answer is new memory, and what is handed in isn't changed: to write over an answer, or append to it, changes neither an argument nor a later answer.
func TestAnswersAreNew(t *testing.T) {
	octets := []byte{1, 2, 0}
	want := framed([]byte{1, 2, 0})
	unit := bits(want)
	for range 3 {
		mark := flag.Flag()
		f, _ := flag.Frame(octets)
		p, _ := flag.Judge(unit)
		if mark.Text() != flagText || f.Text() != want+flagText || string(p) != "\x01\x02\x00" {
			t.Fatalf("%s, %s, %x", mark.Text(), f.Text(), p)
		}
		turn(mark)
		turn(f)
		spoil(p)
	}
	if !bytes.Equal(octets, []byte{1, 2, 0}) || unit.Text() != want {
		t.Error("what was handed in is changed")
	}
}

// P2: what an Ear has answered may be written over and appended to; it keeps nothing of the lists that it was handed, and those stay as they are.
func TestEarKeepsItsOwn(t *testing.T) {
	text := framed([]byte{1, 2, 0}) + flagText
	e := &flag.Ear{}
	e.Bits(flag.Flag())
	for range 5 {
		twice := bits(text + text)
		l := e.Bits(twice)
		if told(l) != "R010200 R010200" || twice.Text() != text+text {
			t.Fatalf("%s; %s", told(l), twice.Text())
		}
		spoil(l[0].P)
		if told(l[1:]) != "R010200" {
			t.Fatalf("one answer shares memory with another: %s", told(l))
		}
		_ = append(l[:1], api.Heard{Kind: api.Lost})
		half, rest := bits(text[:30]), bits(text[30:])
		if l := e.Bits(half); len(l) != 0 {
			t.Fatalf("half a unit: %s", told(l))
		}
		turn(half)
		if l := e.Bits(rest); told(l) != "R010200" {
			t.Fatalf("the other half: %s", told(l))
		}
	}
}

// P2: Ears don't hang together: each hears its own bits, in whatever order they are told theirs.
func TestEarsAlone(t *testing.T) {
	texts := []string{stream(1, 30), stream(2, 30), stream(3, 30)}
	ears, all := make([]flag.Ear, 3), make([][]api.Heard, 3)
	for i := range max(len(texts[0]), len(texts[1]), len(texts[2])) {
		for k, s := range texts {
			if i >= len(s) {
				continue
			}
			if h, ok := ears[k].Bit(s[i] == '1'); ok {
				all[k] = append(all[k], h)
			}
		}
	}
	for k, s := range texts {
		if want := told((&flag.Ear{}).Bits(bits(s))); told(all[k]) != want {
			t.Errorf("Ear %d: %s, want %s", k, told(all[k]), want)
		}
	}
}

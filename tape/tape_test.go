package tape_test

import (
	"bytes"
	"slices"
	"strings"
	"testing"

	"signalman/api"
	"signalman/tape"
)

// bits makes a tape of a text of 0 and 1, without Parse.
func bits(s string) tape.Tape {
	var t tape.Tape
	for i := range len(s) {
		t = append(t, s[i] == '1')
	}
	return t
}

// texts is all texts of 0 and 1 up to a length, the empty one too.
func texts(most int) []string {
	all := []string{""}
	for i := 0; i < len(all); i++ {
		if len(all[i]) < most {
			all = append(all, all[i]+"0", all[i]+"1")
		}
	}
	return all
}

// P2.1: Of: octet behind octet, of each the lowest bit first.
func TestOf(t *testing.T) {
	for _, c := range []struct {
		p    []byte
		want string
	}{
		{nil, ""},
		{[]byte{}, ""},
		{[]byte{0x06}, "01100000"},
		{[]byte{0x01}, "10000000"},
		{[]byte{0x80}, "00000001"},
		{[]byte{0x06, 0x81}, "0110000010000001"},
		{[]byte{0x00, 0xff, 0x0f}, "000000001111111111110000"},
	} {
		if got := tape.Of(c.p); !slices.Equal(got, bits(c.want)) {
			t.Errorf("Of(%x) = %v", c.p, got)
		}
	}
	for b := range 256 {
		got := tape.Of([]byte{byte(b)})
		if len(got) != 8 {
			t.Fatalf("Of(%x) has %d bits", b, len(got))
		}
		back := 0
		for i, weight := range []int{1, 2, 4, 8, 16, 32, 64, 128} {
			if got[i] {
				back += weight
			}
		}
		if back != b {
			t.Errorf("Of(%x) = %v", b, got)
		}
	}
}

// P2.1: Octets: and back; ErrWhole, and nothing beside it, where bits are left over.
func TestOctets(t *testing.T) {
	for b := range 256 {
		p := []byte{byte(b), byte(255 - b), byte(b)}
		if got, e := tape.Of(p).Octets(); e != api.OK || !bytes.Equal(got, p) {
			t.Errorf("Octets of %x: %x, %d", p, got, e)
		}
	}
	for n := range 33 {
		got, e := make(tape.Tape, n).Octets()
		switch {
		case n%8 != 0 && (e != api.ErrWhole || len(got) != 0):
			t.Errorf("Octets of %d bits: %x, %d", n, got, e)
		case n%8 == 0 && (e != api.OK || !bytes.Equal(got, make([]byte, n/8))):
			t.Errorf("Octets of %d bits: %x, %d", n, got, e)
		}
	}
	if got, e := bits("0110000010000001").Octets(); e != api.OK || !bytes.Equal(got, []byte{0x06, 0x81}) {
		t.Errorf("Octets: %x, %d", got, e)
	}
	if got, e := tape.Tape(nil).Octets(); e != api.OK || len(got) != 0 {
		t.Errorf("Octets of nil: %x, %d", got, e)
	}
}

// P2.1: Low: the first eight bits, or fewer; what stands behind them doesn't count.
func TestLow(t *testing.T) {
	for _, c := range []struct {
		in   string
		want byte
	}{
		{"", 0}, {"0", 0}, {"1", 1}, {"01", 2}, {"0110", 6}, {"1111111", 127}, {"00000001", 128},
		{"11111111", 255}, {"000000001", 0}, {"011000001", 6}, {"0110000010000001", 6},
	} {
		if got := tape.Low(bits(c.in)); got != c.want {
			t.Errorf("Low(%s) = %d, want %d", c.in, got, c.want)
		}
	}
	for _, s := range texts(10) {
		want, weight := 0, 1
		for i := range min(8, len(s)) {
			want += weight * int(s[i]-'0')
			weight *= 2
		}
		if got := tape.Low(bits(s)); int(got) != want {
			t.Errorf("Low(%s) = %d, want %d", s, got, want)
		}
	}
	if tape.Low(nil) != 0 {
		t.Error("Low(nil)")
	}
}

// P2.1: Text, and Parse back.
func TestText(t *testing.T) {
	if got := tape.Of([]byte{0x06}).Text(); got != "01100000" {
		t.Errorf("Text = %s", got)
	}
	if got := tape.Tape(nil).Text(); got != "" {
		t.Errorf("Text of nil = %q", got)
	}
	for _, s := range texts(10) {
		if got := bits(s).Text(); got != s {
			t.Errorf("Text of %s = %s", s, got)
		}
		if got, e := tape.Parse(s); e != api.OK || !slices.Equal(got, bits(s)) {
			t.Errorf("Parse(%s) = %v, %d", s, got, e)
		}
	}
}

// P2.1: Parse passes blanks and underlines by, wherever they stand.
func TestParsePasses(t *testing.T) {
	for in, want := range map[string]string{
		"": "", " ": "", "_": "", " _ _": "", "01 1_0": "0110", "_0": "0", "1 ": "1", "  1__ 0 ": "10",
	} {
		if got, e := tape.Parse(in); e != api.OK || !slices.Equal(got, bits(want)) {
			t.Errorf("Parse(%q) = %v, %d", in, got, e)
		}
	}
}

// P2.1: ErrWord of any other rune, and nothing beside it.
func TestParseRefuses(t *testing.T) {
	signs := []string{"é", "\u0661", "\uff10", "\uff11", "\u00a0", "\u3000", "\ufffd", "\xff", "\xc3", "\U0001f6a6"}
	for b := range 128 {
		if s := string(rune(b)); !strings.Contains("01 _", s) {
			signs = append(signs, s)
		}
	}
	for _, sign := range signs {
		for _, s := range []string{sign, sign + "01", "0" + sign + "1", "01" + sign, "01 _" + sign + "01"} {
			if got, e := tape.Parse(s); e != api.ErrWord || len(got) != 0 {
				t.Errorf("Parse(%q) = %v, %d", s, got, e)
			}
		}
	}
}

// P2.2: Run and Ones.
func TestRunOnes(t *testing.T) {
	for _, s := range append(texts(12), strings.Repeat("1", 3000), strings.Repeat("1", 7)+"0"+strings.Repeat("1", 6)) {
		longest := 0
		for _, ones := range strings.Split(s, "0") {
			longest = max(longest, len(ones))
		}
		if got := bits(s).Run(); got != longest {
			t.Errorf("Run of %s = %d, want %d", s, got, longest)
		}
		if got, want := bits(s).Ones(), strings.Count(s, "1"); got != want {
			t.Errorf("Ones of %s = %d, want %d", s, got, want)
		}
	}
	if tape.Tape(nil).Run() != 0 || tape.Tape(nil).Ones() != 0 {
		t.Error("Run, Ones of nil")
	}
}

// turned is Turn's answer by its words, bit by bit of the texts.
func turned(s, mask string) string {
	var out strings.Builder
	for i := range len(s) {
		on := s[i] == '1'
		if i < len(mask) && mask[i] == '1' {
			on = !on
		}
		out.WriteByte(map[bool]byte{false: '0', true: '1'}[on])
	}
	return out.String()
}

// P2.2: Turn by masks that are as long, shorter, longer; neither the bits nor the mask are changed.
func TestTurn(t *testing.T) {
	for _, s := range texts(6) {
		for _, m := range texts(8) {
			in, mask := bits(s), bits(m)
			if got := in.Turn(mask).Text(); got != turned(s, m) {
				t.Fatalf("%s.Turn(%s) = %s", s, m, got)
			}
			if in.Text() != s || mask.Text() != m {
				t.Fatalf("%s.Turn(%s) changed what it was handed", s, m)
			}
		}
	}
	if got := bits("0110").Turn(nil).Text(); got != "0110" {
		t.Errorf("Turn(nil) = %s", got)
	}
	if got := tape.Tape(nil).Turn(bits("11")); len(got) != 0 {
		t.Errorf("nil.Turn = %v", got)
	}
}

// P2.2: Same: as many, all alike; nil and empty are one.
func TestSame(t *testing.T) {
	for _, a := range texts(6) {
		for _, b := range texts(6) {
			if got := tape.Same(bits(a), bits(b)); got != (a == b) {
				t.Fatalf("Same(%s, %s) = %v", a, b, got)
			}
		}
	}
	if !tape.Same(nil, tape.Tape{}) || !tape.Same(tape.Tape{}, nil) || !tape.Same(nil, nil) || tape.Same(nil, bits("0")) || tape.Same(bits("0"), nil) {
		t.Error("Same: nil")
	}
}

// P1: nil, empty, odd and long lists: every call ends, and none panics.
func TestEnds(t *testing.T) {
	for _, x := range []tape.Tape{nil, {}, {true}, make(tape.Tape, 7), make(tape.Tape, 9), make(tape.Tape, 100003)} {
		for _, mask := range []tape.Tape{nil, {}, {true}, make(tape.Tape, 200000)} {
			if got := x.Turn(mask); len(got) != len(x) {
				t.Errorf("Turn has %d bits of %d", len(got), len(x))
			}
			tape.Same(x, mask)
			tape.Same(mask, x)
		}
		x.Octets()
		tape.Low(x)
		x.Text()
		x.Run()
		x.Ones()
	}
	if n := len(tape.Of(make([]byte, 100003))); n != 8*100003 {
		t.Errorf("Of has %d bits", n)
	}
	if _, e := tape.Parse("01\x00"); e != api.ErrWord {
		t.Errorf("Parse: %d", e)
	}
}

// P2: what stands behind a list's end, within its capacity, doesn't count.
func TestCapacityDoesNotCount(t *testing.T) {
	whole := bits("0110000011111111")
	cut := whole[:8]
	if cut.Text() != "01100000" || cut.Run() != 2 || cut.Ones() != 2 || tape.Low(whole[:3]) != 6 || !tape.Same(cut, bits("01100000")) {
		t.Error("bits behind the end count")
	}
	if p, e := cut.Octets(); e != api.OK || !bytes.Equal(p, []byte{6}) {
		t.Errorf("Octets: %x, %d", p, e)
	}
	if got := bits("0000").Turn(whole[:2]).Text(); got != "0100" {
		t.Errorf("Turn by a cut mask: %s", got)
	}
	if got := tape.Of([]byte{6, 255}[:1]).Text(); got != "01100000" {
		t.Errorf("Of cut octets: %s", got)
	}
}

// P2: an answer is new memory: to write over it, or append to it, changes neither an argument nor a later answer.
func TestAnswersAreNew(t *testing.T) {
	in, mask, octets := bits("01100000")[:8:8], bits("0000"), []byte{6, 0x81}
	for range 2 {
		x := in.Turn(mask)
		y := in.Turn(nil)
		if x.Text() != "01100000" || y.Text() != "01100000" {
			t.Fatalf("Turn: %s, %s", x.Text(), y.Text())
		}
		z := tape.Of(octets)
		if z.Text() != "0110000010000001" {
			t.Fatalf("Of: %s", z.Text())
		}
		p, _ := in.Octets()
		if !bytes.Equal(p, []byte{6}) {
			t.Fatalf("Octets: %x", p)
		}
		w, _ := tape.Parse("0110")
		if w.Text() != "0110" {
			t.Fatalf("Parse: %s", w.Text())
		}
		for _, l := range []tape.Tape{x, y, z, w} {
			for i := range l {
				l[i] = !l[i]
			}
			_ = append(l, true, true)
		}
		p[0] = 99
		_ = append(p, 98)
	}
	if in.Text() != "01100000" || mask.Text() != "0000" || !bytes.Equal(octets, []byte{6, 0x81}) {
		t.Error("what was handed in is changed")
	}
}

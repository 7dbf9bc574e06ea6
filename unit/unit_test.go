package unit_test

import (
	"bytes"
	"fmt"
	"testing"

	"signalman/api"
	"signalman/unit"
)

// octets is n octets that are unlike each other as far as they go.
func octets(n int) []byte {
	p := make([]byte, n)
	for i := range p {
		p[i] = byte(37*i + i/256 + 11)
	}
	return p
}

// told is a unit as a text, each field of it; nil and empty Info are told alike.
func told(u api.Unit) string {
	return fmt.Sprintf("%d %v %d %v %d %d %v %x", u.BSN, u.BIB, u.FSN, u.FIB, u.Kind, u.Status, u.Wide, u.Info)
}

// encoded is Encode's octets by P6.1's words, of a unit that is right.
func encoded(u api.Unit) []byte {
	number := map[bool]byte{true: 128}
	var behind []byte
	switch {
	case u.Kind == api.Signal:
		behind = u.Info
	case u.Kind == api.Link && u.Wide:
		behind = []byte{u.Status, 0}
	case u.Kind == api.Link:
		behind = []byte{u.Status}
	}
	length := len(behind)
	if length > 63 {
		length = 63
	}
	p := []byte{u.BSN + number[u.BIB], u.FSN + number[u.FIB], byte(length)}
	return append(p, behind...)
}

// message is a Signal of so many octets.
func message(n int) api.Unit { return api.Unit{Kind: api.Signal, Info: octets(n)} }

// heads is numbers and indicators of all kinds, the edges too.
func heads() []api.Unit {
	var all []api.Unit
	for _, n := range []uint8{0, 1, 63, 64, 126, 127} {
		for i := range 4 {
			bib, fib := i&1 != 0, i&2 != 0
			all = append(all, api.Unit{BSN: n, BIB: bib, FIB: fib}, api.Unit{FSN: n, BIB: bib, FIB: fib}, api.Unit{BSN: n, FSN: 127 - n, BIB: bib, FIB: fib})
		}
	}
	return all
}

// samples is right units, each of which has only the fields that its kind has.
func samples() []api.Unit {
	var all []api.Unit
	for _, u := range heads() {
		all = append(all, u)
		for status := range byte(8) {
			for _, wide := range []bool{false, true} {
				l := u
				l.Kind, l.Status, l.Wide = api.Link, status, wide
				all = append(all, l)
			}
		}
		for _, n := range []int{3, 4, 5, 61, 62, 63, 64, 65, 127, 128, 255, 256, 272, 273} {
			s := u
			s.Kind, s.Info = api.Signal, octets(n)
			all = append(all, s)
		}
	}
	return all
}

// P6.1: Right, its errors at the edges and in their order; Encode answers the same, and nothing beside an error.
func TestRight(t *testing.T) {
	for _, c := range []struct {
		what string
		u    api.Unit
		want api.Errno
	}{
		{"the zero value", api.Unit{}, api.OK},
		{"BSN 127", api.Unit{BSN: 127}, api.OK},
		{"BSN 128", api.Unit{BSN: 128}, api.ErrArg},
		{"BSN 255", api.Unit{BSN: 255}, api.ErrArg},
		{"FSN 127", api.Unit{FSN: 127}, api.OK},
		{"FSN 128", api.Unit{FSN: 128}, api.ErrArg},
		{"FSN 255", api.Unit{FSN: 255}, api.ErrArg},
		{"indicators", api.Unit{BSN: 127, FSN: 127, BIB: true, FIB: true}, api.OK},

		{"Kind 1", api.Unit{Kind: 1}, api.OK},
		{"Kind 2", api.Unit{Kind: 2, Info: octets(3)}, api.OK},
		{"Kind 3", api.Unit{Kind: 3}, api.ErrArg},
		{"Kind 3 with Info", api.Unit{Kind: 3, Info: octets(3)}, api.ErrArg},
		{"Kind 255", api.Unit{Kind: 255, Info: octets(3)}, api.ErrArg},

		{"Link, Status 6", api.Unit{Kind: api.Link, Status: 6}, api.OK},
		{"Link, Status 7", api.Unit{Kind: api.Link, Status: 7}, api.OK},
		{"Link, Status 8", api.Unit{Kind: api.Link, Status: 8}, api.ErrArg},
		{"Link, Status 255", api.Unit{Kind: api.Link, Status: 255}, api.ErrArg},
		{"Link, Wide, Status 7", api.Unit{Kind: api.Link, Status: 7, Wide: true}, api.OK},
		{"Link, Wide, Status 8", api.Unit{Kind: api.Link, Status: 8, Wide: true}, api.ErrArg},
		{"Fill, Status 8", api.Unit{Status: 8}, api.OK},
		{"Fill, Status 255", api.Unit{Status: 255, Wide: true}, api.OK},
		{"Signal, Status 8", api.Unit{Kind: api.Signal, Status: 8, Info: octets(3)}, api.OK},
		{"Signal, Status 255", api.Unit{Kind: api.Signal, Status: 255, Wide: true, Info: octets(3)}, api.OK},

		{"Signal, Info nil", api.Unit{Kind: api.Signal}, api.ErrShort},
		{"Signal, Info empty", message(0), api.ErrShort},
		{"Signal, 1", message(1), api.ErrShort},
		{"Signal, 2", message(2), api.ErrShort},
		{"Signal, 3", message(3), api.OK},
		{"Signal, MaxInfo", message(api.MaxInfo), api.OK},
		{"Signal, MaxInfo + 1", message(api.MaxInfo + 1), api.OK},
		{"Signal, MaxInfo + 2", message(api.MaxInfo + 2), api.ErrLong},
		{"Signal, many", message(1000003), api.ErrLong},
		{"Fill with Info of 1", api.Unit{Info: octets(1)}, api.OK},
		{"Fill with Info of 2", api.Unit{Info: octets(2)}, api.OK},
		{"Fill with Info of MaxInfo + 2", api.Unit{Info: octets(api.MaxInfo + 2)}, api.OK},
		{"Link with Info of 1", api.Unit{Kind: api.Link, Info: octets(1)}, api.OK},
		{"Link with Info of MaxInfo + 2", api.Unit{Kind: api.Link, Info: octets(api.MaxInfo + 2)}, api.OK},

		{"BSN 128, ahead of ErrShort", api.Unit{BSN: 128, Kind: api.Signal}, api.ErrArg},
		{"FSN 128, ahead of ErrShort", api.Unit{FSN: 128, Kind: api.Signal, Info: octets(2)}, api.ErrArg},
		{"BSN 128, ahead of ErrLong", api.Unit{BSN: 128, Kind: api.Signal, Info: octets(api.MaxInfo + 2)}, api.ErrArg},
		{"FSN 128, ahead of ErrLong", api.Unit{FSN: 128, Kind: api.Signal, Info: octets(api.MaxInfo + 2)}, api.ErrArg},
		{"Kind 3, ahead of ErrLong", api.Unit{Kind: 3, Info: octets(api.MaxInfo + 2)}, api.ErrArg},
		{"Signal, Status 8, ErrShort", api.Unit{Kind: api.Signal, Status: 8, Info: octets(2)}, api.ErrShort},
		{"Signal, Status 8, ErrLong", api.Unit{Kind: api.Signal, Status: 8, Info: octets(api.MaxInfo + 2)}, api.ErrLong},
	} {
		if got := unit.Right(c.u); got != c.want {
			t.Errorf("Right, %s: %d, want %d", c.what, got, c.want)
		}
		p, got := unit.Encode(c.u)
		if got != c.want || c.want != api.OK && len(p) != 0 {
			t.Errorf("Encode, %s: %d octets, %d, want %d", c.what, len(p), got, c.want)
		}
		if c.want == api.OK && !bytes.Equal(p, encoded(c.u)) {
			t.Errorf("Encode, %s: %x, want %x", c.what, p, encoded(c.u))
		}
	}
}

// P6.1: Right of each pair of a BSN and an FSN, and of each kind and status.
func TestRightOfAll(t *testing.T) {
	errors := map[bool]api.Errno{true: api.ErrArg}
	for a := range 256 {
		for b := range 256 {
			numbers := api.Unit{BSN: uint8(a), FSN: uint8(b)}
			if got, want := unit.Right(numbers), errors[a > 127 || b > 127]; got != want {
				t.Fatalf("Right of BSN %d, FSN %d: %d, want %d", a, b, got, want)
			}
			kind := api.Unit{Kind: byte(a), Status: byte(b), Info: octets(3)}
			if got, want := unit.Right(kind), errors[a > 2 || a == 1 && b > 7]; got != want {
				t.Fatalf("Right of Kind %d, Status %d: %d, want %d", a, b, got, want)
			}
		}
	}
}

// P6.1: Encode by hand: the document's example, and each part of a unit alone.
func TestEncodeByHand(t *testing.T) {
	for _, c := range []struct {
		u    api.Unit
		want string
	}{
		{api.Unit{BSN: 1, BIB: true, FSN: 2, Kind: api.Link, Status: api.SIE}, "81020102"},
		{api.Unit{}, "000000"},
		{api.Unit{BSN: 127}, "7f0000"},
		{api.Unit{FSN: 127}, "007f00"},
		{api.Unit{BIB: true}, "800000"},
		{api.Unit{FIB: true}, "008000"},
		{api.Unit{BSN: 127, BIB: true, FSN: 127, FIB: true}, "ffff00"},
		{api.Unit{BSN: 5, FSN: 6, FIB: true}, "058600"},
		{api.Unit{Kind: api.Link, Status: api.SIO}, "00000100"},
		{api.Unit{Kind: api.Link, Status: 7}, "00000107"},
		{api.Unit{Kind: api.Link, Status: api.SIB, Wide: true}, "0000020500"},
		{api.Unit{Kind: api.Signal, Info: []byte("abc")}, "000003616263"},
		{api.Unit{Status: 255, Wide: true, Info: []byte("abc")}, "000000"},
		{api.Unit{Kind: api.Link, Status: 3, Info: []byte("abc")}, "00000103"},
		{api.Unit{Kind: api.Link, Status: 3, Wide: true, Info: []byte("abc")}, "0000020300"},
		{api.Unit{Kind: api.Signal, Status: 255, Wide: true, Info: []byte("abcd")}, "00000461626364"},
	} {
		p, e := unit.Encode(c.u)
		if got := fmt.Sprintf("%x", p); e != api.OK || got != c.want {
			t.Errorf("Encode(%s) = %s, %d, want %s", told(c.u), got, e, c.want)
		}
	}
}

// P6.1: the length indicator: how many octets stand behind it, 63 at most.
func TestLengthIndicator(t *testing.T) {
	for _, c := range []struct {
		u    api.Unit
		want byte
	}{
		{api.Unit{}, 0}, {api.Unit{Kind: api.Link}, 1}, {api.Unit{Kind: api.Link, Wide: true}, 2},
		{message(3), 3}, {message(4), 4}, {message(61), 61}, {message(62), 62}, {message(63), 63}, {message(64), 63}, {message(65), 63},
		{message(127), 63}, {message(128), 63}, {message(255), 63}, {message(256), 63}, {message(257), 63}, {message(272), 63}, {message(273), 63},
	} {
		p, e := unit.Encode(c.u)
		if e != api.OK || p[2] != c.want || !bytes.Equal(p, encoded(c.u)) {
			t.Errorf("Encode(%s) = %x, %d", told(c.u), p, e)
		}
	}
	for n := 3; n <= api.MaxInfo+1; n++ {
		if p, e := unit.Encode(message(n)); e != api.OK || len(p) != n+3 || int(p[2]) != min(n, 63) || !bytes.Equal(p[3:], octets(n)) {
			t.Errorf("Encode of %d octets: %x, %d", n, p, e)
		}
	}
}

// P6.1 and P6.2: Encode by its words, and Decode brings back the unit, of all kinds of units.
func TestThereAndBack(t *testing.T) {
	for _, u := range samples() {
		p, e := unit.Encode(u)
		if e != api.OK || !bytes.Equal(p, encoded(u)) {
			t.Fatalf("Encode(%s) = %x, %d", told(u), p, e)
		}
		v, e := unit.Decode(p)
		if e != api.OK || told(v) != told(u) || !unit.Same(u, v) {
			t.Fatalf("Decode(%x) = %s, %d, want %s", p, told(v), e, told(u))
		}
	}
}

// P6.2: Decode's numbers and indicators, of each octet at both places.
func TestDecodeNumbers(t *testing.T) {
	for a := range 256 {
		for b := range 256 {
			want := api.Unit{BSN: uint8(a % 128), BIB: a > 127, FSN: uint8(b % 128), FIB: b > 127}
			u, e := unit.Decode([]byte{byte(a), byte(b), 0})
			if e != api.OK || told(u) != told(want) {
				t.Fatalf("Decode(%x %x 00) = %s, %d", a, b, told(u), e)
			}
		}
	}
}

// P6.2: Decode by hand: each kind, with what doesn't count set too, and with the fields zero that a kind doesn't have.
func TestDecodeByHand(t *testing.T) {
	for _, c := range []struct {
		in   string
		want api.Unit
	}{
		{"\x81\x02\x01\x02", api.Unit{BSN: 1, BIB: true, FSN: 2, Kind: api.Link, Status: api.SIE}},
		{"\x7f\xff\x00", api.Unit{BSN: 127, FSN: 127, FIB: true}},
		{"\x00\x00\x40", api.Unit{}},
		{"\x00\x00\x80", api.Unit{}},
		{"\x00\x00\xc0", api.Unit{}},
		{"\x00\x00\x01\x00", api.Unit{Kind: api.Link}},
		{"\x00\x00\x01\x07", api.Unit{Kind: api.Link, Status: 7}},
		{"\x00\x00\x01\x08", api.Unit{Kind: api.Link}},
		{"\x00\x00\x01\xf9", api.Unit{Kind: api.Link, Status: 1}},
		{"\x00\x00\x01\xff", api.Unit{Kind: api.Link, Status: 7}},
		{"\x00\x00\x41\x03", api.Unit{Kind: api.Link, Status: 3}},
		{"\x00\x00\xc1\x03", api.Unit{Kind: api.Link, Status: 3}},
		{"\x00\x00\x02\x05\x00", api.Unit{Kind: api.Link, Status: 5, Wide: true}},
		{"\x00\x00\x02\x05\x01", api.Unit{Kind: api.Link, Status: 5, Wide: true}},
		{"\x00\x00\x02\xfd\xff", api.Unit{Kind: api.Link, Status: 5, Wide: true}},
		{"\x00\x00\xc2\x00\x07", api.Unit{Kind: api.Link, Wide: true}},
		{"\x00\x00\x03abc", api.Unit{Kind: api.Signal, Info: []byte("abc")}},
		{"\x00\x00\xc3abc", api.Unit{Kind: api.Signal, Info: []byte("abc")}},
		{"\x00\x00\x04\x00\x00\x00\x00", api.Unit{Kind: api.Signal, Info: make([]byte, 4)}},
	} {
		u, e := unit.Decode([]byte(c.in))
		if e != api.OK || told(u) != told(c.want) {
			t.Errorf("Decode(%x) = %s, %d, want %s", c.in, told(u), e, told(c.want))
		}
	}
}

// P6.2: a Status is the lowest three bits of the first octet, whatever the others are; Encode writes those alone, and an octet 0 behind.
func TestDecodeStatus(t *testing.T) {
	for a := range 256 {
		want := api.Unit{Kind: api.Link, Status: byte(a % 8)}
		u, e := unit.Decode([]byte{0, 0, 1, byte(a)})
		if e != api.OK || told(u) != told(want) {
			t.Fatalf("one octet, %x: %s, %d", a, told(u), e)
		}
		want.Wide = true
		for b := range 256 {
			u, e := unit.Decode([]byte{0, 0, 2, byte(a), byte(b)})
			if e != api.OK || told(u) != told(want) {
				t.Fatalf("two octets, %x %x: %s, %d", a, b, told(u), e)
			}
			if p, e := unit.Encode(u); e != api.OK || !bytes.Equal(p, []byte{0, 0, 2, byte(a % 8), 0}) {
				t.Fatalf("two octets, %x %x, and back: %x, %d", a, b, p, e)
			}
		}
	}
}

// decodeError is Decode's error by P6.2's words.
func decodeError(p []byte) api.Errno {
	switch {
	case len(p) < 3:
		return api.ErrShort
	case len(p) > 276:
		return api.ErrLong
	}
	behind, told := len(p)-3, int(p[2])%64
	if told == behind || told == 63 && behind > 63 {
		return api.OK
	}
	return api.ErrForm
}

// P6.2: Decode of each size with each length indicator: its errors, in their order, with nothing beside them.
func TestDecodeErrors(t *testing.T) {
	for _, c := range []struct {
		size      int
		indicator byte
		want      api.Errno
	}{
		{3, 0, api.OK}, {3, 1, api.ErrForm}, {3, 63, api.ErrForm}, {3, 64, api.OK}, {3, 255, api.ErrForm},
		{4, 0, api.ErrForm}, {4, 1, api.OK}, {4, 2, api.ErrForm}, {4, 193, api.OK},
		{64, 61, api.OK}, {64, 62, api.ErrForm}, {64, 63, api.ErrForm},
		{65, 61, api.ErrForm}, {65, 62, api.OK}, {65, 63, api.ErrForm},
		{66, 62, api.ErrForm}, {66, 63, api.OK}, {66, 0, api.ErrForm}, {66, 127, api.OK},
		{67, 62, api.ErrForm}, {67, 63, api.OK}, {67, 0, api.ErrForm}, {67, 64, api.ErrForm}, {67, 191, api.OK}, {67, 255, api.OK},
		{276, 63, api.OK}, {276, 255, api.OK}, {276, 62, api.ErrForm}, {276, 17, api.ErrForm},
		{277, 63, api.ErrLong}, {277, 0, api.ErrLong},
	} {
		p := octets(c.size)
		p[2] = c.indicator
		if _, e := unit.Decode(p); e != c.want {
			t.Errorf("Decode of %d octets, %d: %d, want %d", c.size, c.indicator, e, c.want)
		}
	}
	for size := range 300 {
		for indicator := range 256 {
			p := octets(size)
			if size > 2 {
				p[2] = byte(indicator)
			}
			want := decodeError(p)
			u, e := unit.Decode(p)
			if e != want || want != api.OK && told(u) != told(api.Unit{}) {
				t.Fatalf("Decode of %d octets, %d: %s, %d, want %d", size, indicator, told(u), e, want)
			}
			if e == api.OK && size > 5 && (u.Kind != api.Signal || !bytes.Equal(u.Info, p[3:])) {
				t.Fatalf("Decode of %d octets, %d: %s", size, indicator, told(u))
			}
		}
	}
}

// P6.2: what Decode answers is Right, and Encode of it is what was decoded, but for the bits that don't count.
func TestDecodeIsRight(t *testing.T) {
	for size := 3; size <= api.MaxInfo+4; size++ {
		p := octets(size)
		p[2] = byte(min(size-3, 63))
		u, e := unit.Decode(p)
		if e != api.OK || unit.Right(u) != api.OK {
			t.Fatalf("%d octets: %d, %d", size, e, unit.Right(u))
		}
		if size == 4 || size == 5 {
			p[3] %= 8
			clear(p[4:])
		}
		if q, e := unit.Encode(u); e != api.OK || !bytes.Equal(p, q) {
			t.Fatalf("%x, there and back: %x, %d", p, q, e)
		}
	}
}

// P6.2: Same, of units that differ in one field alone, both ways round; also in fields that their kind doesn't have.
func TestSame(t *testing.T) {
	whole := api.Unit{BSN: 1, FSN: 2, BIB: true, FIB: true, Kind: api.Signal, Status: 3, Wide: true, Info: []byte("abc")}
	for _, base := range []api.Unit{{}, {Kind: api.Link}, {Kind: api.Signal, Info: []byte("ab")}, whole, {BSN: 200, FSN: 255, Kind: 9, Status: 99}} {
		if again := base; !unit.Same(base, again) {
			t.Errorf("Same of one unit: %s", told(base))
		}
		for i := range 10 {
			other := base
			switch i {
			case 0:
				other.BSN ^= 1
			case 1:
				other.BSN ^= 128
			case 2:
				other.FSN ^= 1
			case 3:
				other.FSN ^= 128
			case 4:
				other.BIB = !base.BIB
			case 5:
				other.FIB = !base.FIB
			case 6:
				other.Kind ^= 4
			case 7:
				other.Status ^= 8
			case 8:
				other.Wide = !base.Wide
			case 9:
				other.Info = append(bytes.Clone(base.Info), 0)
			}
			if unit.Same(base, other) || unit.Same(other, base) {
				t.Errorf("Same(%s, %s)", told(base), told(other))
			}
		}
	}
}

// P6.2: Same, of what stands in Info: nil and empty are one; an octet more, or another one at the beginning or the end, is not.
func TestSameInfo(t *testing.T) {
	all := [][]byte{{}, {0}, {1}, {0, 0}, []byte("abc"), []byte("abd"), []byte("bbc"), []byte("abca")}
	for _, kind := range []byte{api.Fill, api.Link, api.Signal, 77} {
		for i, a := range all {
			for k, b := range all {
				if got := unit.Same(api.Unit{Kind: kind, Info: a}, api.Unit{Kind: kind, Info: bytes.Clone(b)}); got != (i == k) {
					t.Errorf("kind %d: Same of %x, %x = %v", kind, a, b, got)
				}
			}
		}
		none, empty := api.Unit{Kind: kind}, api.Unit{Kind: kind, Info: make([]byte, 0, 9)}
		if !unit.Same(none, empty) || !unit.Same(empty, none) || !unit.Same(none, none) {
			t.Errorf("kind %d: nil and empty Info", kind)
		}
	}
	if !unit.Same(message(273), message(273)) || unit.Same(message(273), message(272)) {
		t.Error("Same of long messages")
	}
}

// P6.2: Name of each status, and of all others.
func TestName(t *testing.T) {
	names := []string{"SIO", "SIN", "SIE", "SIOS", "SIPO", "SIB"}
	for status := range 256 {
		want := ""
		if status < len(names) {
			want = names[status]
		}
		if got := unit.Name(byte(status)); got != want {
			t.Errorf("Name(%d) = %q, want %q", status, got, want)
		}
	}
}

// P1: nil, empty and long lists, and units that aren't any: every call ends, and none panics.
func TestEnds(t *testing.T) {
	for _, p := range [][]byte{nil, {}, {1}, {1, 2}} {
		if u, e := unit.Decode(p); e != api.ErrShort || told(u) != told(api.Unit{}) {
			t.Errorf("Decode(%x) = %s, %d", p, told(u), e)
		}
	}
	if u, e := unit.Decode(make([]byte, 1000003)); e != api.ErrLong || told(u) != told(api.Unit{}) {
		t.Errorf("Decode of many = %s, %d", told(u), e)
	}
	odd := api.Unit{BSN: 255, FSN: 255, BIB: true, FIB: true, Kind: 255, Status: 255, Wide: true, Info: make([]byte, 1000003)}
	if p, e := unit.Encode(odd); e != api.ErrArg || len(p) != 0 {
		t.Errorf("Encode of an odd one: %d octets, %d", len(p), e)
	}
	if !unit.Same(odd, odd) || unit.Same(odd, api.Unit{}) {
		t.Error("Same of an odd one")
	}
}

// P2: what stands behind a list's end, within its capacity, doesn't count, and isn't written over.
func TestBehindTheEnd(t *testing.T) {
	whole := []byte("\x00\x00\x03abcdef")
	u, e := unit.Decode(whole[:6])
	if e != api.OK || string(u.Info) != "abc" {
		t.Errorf("Decode: %s, %d", told(u), e)
	}
	_ = append(u.Info, 'x', 'y', 'z')
	if u, e := unit.Decode(whole[:2]); e != api.ErrShort {
		t.Errorf("Decode of two: %s, %d", told(u), e)
	}
	p, e := unit.Encode(api.Unit{Kind: api.Signal, Info: whole[3:6]})
	if e != api.OK || string(p) != "\x00\x00\x03abc" {
		t.Errorf("Encode: %x, %d", p, e)
	}
	_ = append(p, 'x', 'y', 'z')
	if p, e := unit.Encode(api.Unit{Kind: api.Signal, Info: whole[3:5]}); e != api.ErrShort {
		t.Errorf("Encode of two: %x, %d", p, e)
	}
	if string(whole) != "\x00\x00\x03abcdef" {
		t.Errorf("written over: %x", whole)
	}
}

// spoil writes over octets, and behind their end.
func spoil(p []byte) {
	for i := range p {
		p[i] ^= 0xff
	}
	_ = append(p, 0xaa, 0xbb, 0xcc)
}

// The rule of memory: what was handed to Encode and to Decode may be written over: their answers stay as they were.
func TestHandedInIsWrittenOver(t *testing.T) {
	for _, u := range samples() {
		want, field := encoded(u), told(u)
		handed := u
		handed.Info = append(make([]byte, 0, len(u.Info)+9), u.Info...)
		p, _ := unit.Encode(handed)
		spoil(handed.Info)
		if !bytes.Equal(p, want) {
			t.Fatalf("Encode's answer changed: %x, want %x", p, want)
		}
		line := append(make([]byte, 0, len(want)+9), want...)
		v, _ := unit.Decode(line)
		spoil(line)
		if told(v) != field {
			t.Fatalf("Decode's answer changed: %s, want %s", told(v), field)
		}
	}
}

// P2 and the rule of memory: what is handed in isn't changed, and to write over an answer, or append to it, changes neither an argument nor a later answer.
func TestAnswersAreNew(t *testing.T) {
	for _, u := range samples() {
		want, field := encoded(u), told(u)
		line := bytes.Clone(want)
		for range 2 {
			p, e := unit.Encode(u)
			v, f := unit.Decode(line)
			if e != api.OK || f != api.OK || !bytes.Equal(p, want) || told(v) != field {
				t.Fatalf("%x, %d; %s, %d; want %x; %s", p, e, told(v), f, want, field)
			}
			spoil(p)
			spoil(v.Info)
		}
		if told(u) != field || !bytes.Equal(line, want) {
			t.Fatalf("what was handed in is changed: %s; %x", told(u), line)
		}
	}
}

package basic_test

import (
	"bytes"
	"fmt"
	"math/rand"
	"slices"
	"testing"

	"signalman/api"
	"signalman/basic"
	"signalman/hold"
)

// model is a Basic by the document's words. It counts messages from the first one on, and never goes round: a number is made of a count where a unit has one.
type model struct {
	all         []string // each that was put
	freed, sent int
	place       int // the count of the message that is sent again next; -1: none
	fib, bib    bool
	taken       int
	asked       bool
	bsn, ind    []bool // of each unit that was given to Answer, to Take: was it odd?
}

func newModel() *model { return &model{place: -1, fib: true, bib: true, taken: 127} }

func (m *model) unit(kind byte, count int, info string) api.Unit {
	return api.Unit{BSN: uint8(m.taken), BIB: m.bib, FSN: uint8((count + 128) % 128), FIB: m.fib, Kind: kind, Info: []byte(info)}
}

func (m *model) fill() api.Unit { return m.unit(api.Fill, m.sent-1, "") }

func (m *model) next() api.Unit {
	if m.place >= 0 {
		i := m.place
		m.place++
		if m.place == m.sent {
			m.place = -1
		}
		return m.unit(api.Signal, i, m.all[i])
	}
	if m.sent < len(m.all) && m.sent-m.freed < 127 {
		m.sent++
		return m.unit(api.Signal, m.sent-1, m.all[m.sent-1])
	}
	return m.fill()
}

// again: was the last one odd, and one of the two ahead?
func again(odd []bool) bool {
	n := len(odd) - 1
	return odd[n] && slices.Contains(odd[max(n-2, 0):n], true)
}

func (m *model) answer(u api.Unit) (int, api.Errno) {
	known := -1
	for count := m.freed; count <= m.sent; count++ {
		if (count+127)%128 == int(u.BSN) {
			known = count
		}
	}
	m.bsn = append(m.bsn, known < 0)
	if again(m.bsn) {
		return 0, api.ErrRange
	}
	if known < 0 {
		return 0, api.OK
	}
	k := known - m.freed
	m.freed = known
	if m.place >= 0 && m.place < m.freed {
		m.place = m.freed
	}
	if u.BIB != m.fib {
		m.fib = u.BIB
		m.place = m.freed
	}
	if m.freed == m.sent {
		m.place = -1
	}
	return k, api.OK
}

func (m *model) take(u api.Unit) (string, bool, api.Errno) {
	if u.FIB != m.bib {
		m.ind = append(m.ind, !m.asked)
		if again(m.ind) {
			return "", false, api.ErrRange
		}
		return "", false, api.OK
	}
	m.ind = append(m.ind, false)
	if u.Kind == api.Signal && int(u.FSN) == (m.taken+1)%128 {
		m.taken = int(u.FSN)
		m.asked = false
		return string(u.Info), true, api.OK
	}
	if int(u.FSN) == m.taken {
		m.asked = false
		return "", false, api.OK
	}
	m.bib = !m.bib
	m.asked = true
	return "", false, api.OK
}

// both is a Basic and its model, that are asked the same.
type both struct {
	t   *testing.T
	b   *basic.Basic
	m   *model
	did string
}

func newBoth(t *testing.T) *both {
	return &both{t, basic.New(1<<30, 1<<30), newModel(), "New"}
}

func (b *both) fail(form string, args ...any) {
	b.t.Helper()
	b.t.Fatalf("%.300s: %.600s", b.did, fmt.Sprintf(form, args...))
}

// same: are two units one? (nil and empty lists are the same.)
func same(a, b api.Unit) bool {
	return a.BSN == b.BSN && a.FSN == b.FSN && a.BIB == b.BIB && a.FIB == b.FIB && a.Kind == b.Kind && a.Status == b.Status && a.Wide == b.Wide && bytes.Equal(a.Info, b.Info)
}

// look holds all that is told without changing anything against the model.
func (b *both) look() {
	b.t.Helper()
	if got, want := b.b.Fill(), b.m.fill(); !same(got, want) {
		b.fail("Fill: %v, want %v", got, want)
	}
	if got, want := b.b.Taken(), b.m.taken; int(got) != want {
		b.fail("Taken: %d, want %d", got, want)
	}
	if got, want := b.b.Resends(), b.m.place >= 0; got != want {
		b.fail("Resends: %v, want %v", got, want)
	}
	h := b.b.Hold()
	if h == nil || h != b.b.H {
		b.fail("the Hold is another one")
	}
	got := [3]int{int(h.First()), h.Sent(), h.Next()}
	if want := [3]int{b.m.freed % 128, b.m.sent - b.m.freed, len(b.m.all) - b.m.sent}; got != want {
		b.fail("First, Sent, Next of the Hold: %v, want %v", got, want)
	}
}

// rest holds the Hold's messages against the model.
func (b *both) rest() {
	b.t.Helper()
	l, e := b.b.Hold().Rest(uint8((b.m.freed + 127) % 128))
	if e != api.OK || !slices.EqualFunc(l, b.m.all[b.m.freed:], func(p []byte, w string) bool { return string(p) == w }) {
		b.fail("the Hold's messages: %x, %d, want %x", l, e, b.m.all[b.m.freed:])
	}
}

func (b *both) put(n int) {
	b.t.Helper()
	for range n {
		p := text(len(b.m.all))
		if e := b.b.Hold().Put([]byte(p)); e != api.OK {
			b.fail("Put: %d", e)
		}
		b.m.all = append(b.m.all, p)
	}
	b.did += fmt.Sprintf(", Put %d", n)
	b.look()
}

// next holds a Next against the model, and writes over what it answered.
func (b *both) next() api.Unit {
	b.t.Helper()
	b.did += ", Next"
	got, want := b.b.Next(), b.m.next()
	if !same(got, want) {
		b.fail("%v, want %v", got, want)
	}
	scribble(got.Info)
	b.look()
	return want
}

func (b *both) answer(u api.Unit) (int, api.Errno) {
	b.t.Helper()
	b.did += fmt.Sprintf(", Answer of %v", u)
	in := u
	in.Info = room(u.Info)
	k, e := b.b.Answer(in)
	wk, we := b.m.answer(u)
	if k != wk || e != we {
		b.fail("%d, %d, want %d, %d", k, e, wk, we)
	}
	if !same(in, u) {
		b.fail("what was handed in is %v now", in)
	}
	b.look()
	return k, e
}

// take holds a Take against the model, and writes over what it answered, and what was handed in.
func (b *both) take(u api.Unit) (string, bool, api.Errno) {
	b.t.Helper()
	b.did += fmt.Sprintf(", Take of %v", u)
	in := u
	in.Info = room(u.Info)
	p, ok, e := b.b.Take(in)
	wp, wok, we := b.m.take(u)
	if string(p) != wp || ok != wok || e != we {
		b.fail("%x, %v, %d, want %x, %v, %d", p, ok, e, wp, wok, we)
	}
	scribble(p)
	if !same(in, u) {
		b.fail("what was handed in is %v now", in)
	}
	scribble(in.Info)
	b.look()
	return wp, ok, e
}

func (b *both) flush() {
	b.t.Helper()
	b.did += ", Flush"
	b.b.Hold().Flush()
	b.m.all = b.m.all[:b.m.sent]
	b.look()
}

func (b *both) reset() {
	b.t.Helper()
	b.did += ", Reset"
	b.b.Reset()
	b.m = newModel()
	b.look()
}

// bsn is a unit that answers the first so many of those that wait, and asks for none again.
func (b *both) bsn(k int) api.Unit {
	return api.Unit{BSN: uint8((b.m.freed + k + 127) % 128), BIB: b.m.fib}
}

// ask is such a unit that asks for the others again.
func (b *both) ask(k int) api.Unit {
	u := b.bsn(k)
	u.BIB = !u.BIB
	return u
}

// unknown is a unit whose BSN the Hold doesn't know.
func (b *both) unknown() api.Unit {
	if b.m.sent-b.m.freed == 127 {
		return api.Unit{BSN: 128, BIB: b.m.fib}
	}
	return api.Unit{BSN: uint8(b.m.sent % 128), BIB: b.m.fib}
}

// fsn is a unit of a kind, so many behind Taken, whose FIB is right.
func (b *both) fsn(kind byte, behind int) api.Unit {
	u := api.Unit{FSN: uint8((b.m.taken + behind + 128) % 128), FIB: b.m.bib, Kind: kind}
	if kind == api.Signal {
		u.Info = []byte(text(behind + 5000))
	}
	return u
}

// stale is a unit whose FIB isn't right.
func (b *both) stale() api.Unit {
	u := b.fsn(api.Signal, 1)
	u.FIB = !u.FIB
	return u
}

// end plays on until what calls don't tell at once is to be seen too: the place, which units were odd, whether one was asked for again, and what the Hold has.
func (b *both) end() {
	b.t.Helper()
	b.rest()
	for range b.m.sent - b.m.freed + 3 {
		b.next()
	}
	b.answer(b.unknown())
	b.answer(b.bsn(0))
	b.answer(b.unknown())
	for range 3 {
		b.take(b.stale())
	}
	b.answer(b.bsn((b.m.sent - b.m.freed) / 2))
	b.answer(b.ask(0))
	b.put(2)
	for range b.m.sent - b.m.freed + 3 {
		b.next()
	}
	b.take(b.fsn(api.Signal, 1))
	b.rest()
}

// room is a message with octets behind it in its array.
func room(p []byte) []byte { return append(make([]byte, 0, len(p)+8), p...) }

// scribble writes over a message, and over what its array has room for.
func scribble(p []byte) {
	p = append(p, 0xee)
	p = p[:cap(p)]
	for i := range p {
		p[i] = 0xee
	}
}

// text is a message that is told from others by its key.
func text(key int) string {
	return string([]byte{byte(key >> 16), byte(key >> 8), byte(key), 7, 7, 7, 7}[:3+key%5])
}

// filled: so many messages were sent and freed, so many wait, so many weren't sent.
func filled(t *testing.T, freed, waits, next int) *both {
	t.Helper()
	b := newBoth(t)
	for freed > 0 {
		k := min(freed, 100)
		b.put(k)
		for range k {
			b.b.Next()
			b.m.next()
		}
		b.answer(b.bsn(k))
		freed -= k
	}
	b.put(waits)
	for range waits {
		b.b.Next()
		b.m.next()
	}
	b.put(next)
	b.did = fmt.Sprintf("%d freed, %d wait, %d weren't sent", b.m.freed, waits, next)
	b.look()
	return b
}

// took: so many messages were taken.
func took(t *testing.T, n int) *both {
	t.Helper()
	b := newBoth(t)
	for i := range n {
		if _, ok, e := b.take(b.fsn(api.Signal, 1)); !ok || e != api.OK {
			b.fail("%v, %d", ok, e)
		}
		b.did = fmt.Sprintf("%d taken", i+1)
	}
	return b
}

// resent: filled, with a place at one of those that wait.
func resent(t *testing.T, freed, waits, next, place int) *both {
	t.Helper()
	b := filled(t, freed, waits, next)
	b.answer(b.ask(0))
	for range place {
		b.next()
	}
	if b.m.place != b.m.freed+place {
		b.fail("the place is %d", b.m.place)
	}
	return b
}

// P11.1: every sequence of up to ten answers.
func TestSee(t *testing.T) {
	for size := range 11 {
		for bits := range 1 << size {
			var o basic.Odd
			var all []bool
			for i := range size {
				all = append(all, bits>>i&1 == 1)
				if got, want := o.See(all[i]), again(all); got != want {
					t.Fatalf("%v: %v, want %v", all, got, want)
				}
			}
		}
	}
}

// P11.1: one odd alone; two with none, one, two and more between them; those that follow.
func TestSeeEdges(t *testing.T) {
	for _, c := range []struct{ in, out string }{
		{"o", "-"}, {".", "-"}, {"oo", "-x"}, {"o.o", "--x"}, {"o..o", "----"}, {"o...o", "-----"},
		{"ooo", "-xx"}, {"oo.", "-x-"}, {"oo..", "-x--"}, {"oo.o", "-x-x"}, {"oo..o", "-x---"}, {"o.o.o", "--x-x"}, {"..o", "---"}, {"....oo", "-----x"},
	} {
		var o basic.Odd
		out := ""
		for _, x := range c.in {
			if o.See(x == 'o') {
				out += "x"
			} else {
				out += "-"
			}
		}
		if out != c.out {
			t.Errorf("%s: %s, want %s", c.in, out, c.out)
		}
	}
}

// P11.1, P1, P2: an Odd that isn't there, and two that are.
func TestSeeAlone(t *testing.T) {
	var none *basic.Odd
	for range 3 {
		if none.See(true) || none.See(false) {
			t.Error("of nil")
		}
	}
	var a, b basic.Odd
	if a.See(true) || b.See(true) || !a.See(true) || b.See(false) || !b.See(true) {
		t.Error("two side by side")
	}
}

// The chapter's example.
func TestExample(t *testing.T) {
	b := basic.New(9, 100)
	if e := b.Hold().Put([]byte("hey")); e != api.OK {
		t.Fatal(e)
	}
	u := b.Next()
	if u.Kind != api.Signal || u.FSN != 0 || u.BSN != 127 || !u.FIB || !u.BIB || string(u.Info) != "hey" || u.Status != 0 || u.Wide {
		t.Errorf("%v", u)
	}
}

// P11.2: New: what each call tells of it.
func TestNew(t *testing.T) {
	b := basic.New(9, 100)
	if b.Hold() == nil || b.Hold() != b.H || b.Taken() != 127 || b.Resends() {
		t.Error(b.Hold(), b.Taken(), b.Resends())
	}
	fill := api.Unit{BSN: 127, BIB: true, FSN: 127, FIB: true, Kind: api.Fill}
	for range 3 {
		if u := b.Fill(); !same(u, fill) {
			t.Errorf("Fill: %v", u)
		}
		if u := b.Next(); !same(u, fill) {
			t.Errorf("Next: %v", u)
		}
	}
	newBoth(t).end()
}

// P11.2: the Hold has the room that New was given, and keeps it behind Reset.
func TestRoom(t *testing.T) {
	for _, c := range []struct{ most, octets, fits int }{{2, 100, 2}, {0, 100, 0}, {-1, 100, 0}, {9, 8, 2}, {9, 9, 3}, {9, 0, 0}, {9, -1, 0}, {512, 1 << 20, 512}} {
		b := basic.New(c.most, c.octets)
		for range 2 {
			n := 0
			for n < 1000 && b.Hold().Put([]byte("abc")) == api.OK {
				n++
			}
			if n != c.fits {
				t.Errorf("New(%d, %d): %d messages, want %d", c.most, c.octets, n, c.fits)
			}
			b.Reset()
		}
	}
}

// P11.2: Fill's FSN is the Hold's Last: with nothing that waits, at the beginning and later, and with some that wait; its BSN is Taken.
func TestFill(t *testing.T) {
	for _, c := range []struct{ freed, waits, next, fsn int }{
		{0, 0, 0, 127}, {0, 0, 2, 127}, {0, 1, 0, 0}, {0, 127, 0, 126}, {5, 0, 0, 4}, {5, 3, 1, 7}, {128, 0, 0, 127}, {127, 2, 0, 0}, {129, 0, 4, 0}, {300, 127, 1, 42},
	} {
		b := filled(t, c.freed, c.waits, c.next)
		for i := range 3 {
			u := b.b.Fill()
			if want := (api.Unit{BSN: uint8((127 + i) % 128), BIB: true, FSN: uint8(c.fsn), FIB: true}); !same(u, want) {
				b.fail("Fill: %v, want %v", u, want)
			}
			b.take(b.fsn(api.Signal, 1))
		}
		b.end()
	}
}

// P11.2: Fill tells the indicators as they are, each its own.
func TestFillIndicators(t *testing.T) {
	b := filled(t, 0, 1, 0)
	check := func(bib, fib bool) {
		t.Helper()
		for _, u := range []api.Unit{b.b.Fill(), b.b.Next()} {
			if u.BIB != bib || u.FIB != fib {
				b.fail("%v", u)
			}
		}
	}
	check(true, true)
	b.take(b.fsn(api.Fill, 1))
	check(false, true)
	b.answer(b.ask(1))
	check(false, false)
	b.take(b.fsn(api.Fill, 1))
	check(true, false)
	b.answer(b.ask(0))
	check(true, true)
}

// P11.2: Next with nothing, with one and with several that weren't sent.
func TestNextNew(t *testing.T) {
	for _, n := range []int{0, 1, 2, 5, 126, 127} {
		for _, freed := range []int{0, 1, 126, 127, 128, 200} {
			b := filled(t, freed, 0, n)
			for i := range n {
				u := b.next()
				if want := (freed + i) % 128; u.Kind != api.Signal || int(u.FSN) != want || string(u.Info) != text(freed+i) {
					b.fail("%v, want %d", u, want)
				}
			}
			for range 3 {
				if u := b.next(); u.Kind != api.Fill || int(u.FSN) != (freed+n+127)%128 || len(u.Info) != 0 {
					b.fail("%v behind the last one", u)
				}
			}
			b.end()
		}
	}
}

// P11.2: Next with Window that wait sends none, until one waits no more.
func TestNextWindow(t *testing.T) {
	for _, freed := range []int{0, 1, 64, 127, 128} {
		b := filled(t, freed, 127, 3)
		for range 3 {
			if u := b.next(); u.Kind != api.Fill {
				b.fail("%v with Window that wait", u)
			}
		}
		b.answer(b.bsn(2))
		for i := range 4 {
			if u := b.next(); (u.Kind == api.Signal) != (i < 2) {
				b.fail("%v with %d that wait", u, b.m.sent-b.m.freed)
			}
		}
		b.answer(b.ask(0))
		for i := range 130 {
			if u := b.next(); (u.Kind == api.Signal) != (i < 127) {
				b.fail("%v at %d of those that are sent again", u, i)
			}
		}
		b.end()
	}
}

// P11.2: Next with a place at each of those that wait; messages that are put meanwhile come behind those that are sent again.
func TestNextPlace(t *testing.T) {
	for _, freed := range []int{0, 3, 125, 127} {
		for _, waits := range []int{1, 2, 5, 127} {
			for _, place := range []int{0, 1, 2, waits / 2, waits - 1} {
				if place >= waits {
					continue
				}
				b := resent(t, freed, waits, 1, place)
				b.put(2)
				for i := place; i < waits; i++ {
					if !b.b.Resends() {
						b.fail("Resends")
					}
					u := b.next()
					if u.Kind != api.Signal || int(u.FSN) != (freed+i)%128 || string(u.Info) != text(freed+i) || u.FIB {
						b.fail("%v at place %d", u, i)
					}
				}
				if b.b.Resends() {
					b.fail("Resends")
				}
				for i := range 3 {
					u := b.next()
					if waits+i < 127 && (u.Kind != api.Signal || string(u.Info) != text(freed+waits+i)) {
						b.fail("%v behind those that are sent again", u)
					}
				}
				b.end()
			}
		}
	}
}

// P11.2: what is thrown away by Flush isn't sent; what waits is sent again nevertheless.
func TestNextFlush(t *testing.T) {
	for place := range 4 {
		b := resent(t, 7, 4, 3, place)
		b.flush()
		for i := place; i < 6; i++ {
			if u := b.next(); (u.Kind == api.Signal) != (i < 4) {
				b.fail("%v", u)
			}
		}
		b.put(2)
		b.next()
		b.end()
	}
}

// P11.3: Answer with each BSN from 0 to 255, with none, some and Window that wait, and where the numbers go round.
func TestAnswer(t *testing.T) {
	for _, freed := range []int{0, 1, 64, 125, 127, 128, 255} {
		for _, waits := range []int{0, 1, 5, 126, 127} {
			for bsn := range 256 {
				b := filled(t, freed, waits, 1)
				k, e := b.answer(api.Unit{BSN: uint8(bsn), BIB: true})
				want := (bsn - freed%128 + 1 + 128) % 128
				if bsn > 127 || want > waits {
					want = 0
				}
				if k != want || e != api.OK || b.b.Hold().Sent() != waits-want || b.b.Resends() || !b.b.Fill().FIB {
					b.fail("%d, %d, want %d", k, e, want)
				}
				if bsn%16 == 0 {
					b.end()
				}
			}
		}
	}
}

// P11.3: BSNs that the Hold knows, or doesn't, in each order.
func TestAnswerOdd(t *testing.T) {
	for size := range 9 {
		for bits := range 1 << size {
			b := filled(t, 126, 20, 0)
			var all []bool
			for i := range size {
				odd := bits>>i&1 == 1
				all = append(all, odd)
				u := b.bsn(i % 3)
				if odd {
					u = b.unknown()
					u.BSN += uint8(i)
				}
				_, e := b.answer(u)
				if (e == api.ErrRange) != again(all) || e != api.OK && e != api.ErrRange {
					b.fail("%v: %d", all, e)
				}
			}
		}
	}
}

// P11.3: a BSN that the Hold doesn't know once; twice in a row; with one and with two that are known between.
func TestAnswerOddEdges(t *testing.T) {
	for between, want := range []api.Errno{api.ErrRange, api.ErrRange, api.OK, api.OK} {
		for _, bad := range []uint8{50, 126, 128, 255} {
			b := newBoth(t)
			odd := api.Unit{BSN: bad, BIB: true}
			if _, e := b.answer(odd); e != api.OK {
				b.fail("once: %d", e)
			}
			for range between {
				if _, e := b.answer(b.bsn(0)); e != api.OK {
					b.fail("%d", e)
				}
			}
			if _, e := b.answer(odd); e != want {
				b.fail("%d between: %d, want %d", between, e, want)
			}
			b.end()
		}
	}
}

// P11.3: units that are given to Take alone aren't ahead of those that are given to Answer, nor the other way round.
func TestOddApart(t *testing.T) {
	b := newBoth(t)
	odd := func(want api.Errno) {
		t.Helper()
		u := b.stale()
		u.BSN, u.BIB = 50, true
		if _, e := b.answer(u); e != want {
			b.fail("%d, want %d", e, want)
		}
		if _, _, e := b.take(u); e != want {
			b.fail("%d, want %d", e, want)
		}
	}
	odd(api.OK)
	for range 3 {
		b.take(b.fsn(api.Fill, 0))
	}
	if _, e := b.answer(b.unknown()); e != api.ErrRange {
		b.fail("%d", e)
	}
	b = newBoth(t)
	odd(api.OK)
	for range 3 {
		b.answer(b.bsn(0))
	}
	if _, _, e := b.take(b.stale()); e != api.ErrRange {
		b.fail("%d", e)
	}
	b = newBoth(t)
	odd(api.OK)
	odd(api.ErrRange)
	b.end()
}

// P11.3: a unit whose BSN the Hold doesn't know: its BIB counts for nothing.
func TestAnswerUnknownBIB(t *testing.T) {
	for _, place := range []int{-1, 0, 2} {
		b := filled(t, 0, 4, 0)
		if place >= 0 {
			b = resent(t, 0, 4, 0, place)
		}
		was := b.b.Resends()
		for range 3 {
			u := b.unknown()
			u.BIB = !u.BIB
			if k, _ := b.answer(u); k != 0 || b.b.Fill().FIB == u.BIB || b.b.Resends() != was {
				b.fail("%d, %v", k, b.b.Fill())
			}
		}
		if u := b.next(); (u.Kind == api.Signal) != was || was && int(u.FSN) != place {
			b.fail("%v", u)
		}
		b.end()
	}
}

// P11.3: a place ahead of, at and behind what is answered, and all of it answered.
func TestAnswerPlace(t *testing.T) {
	for _, freed := range []int{0, 124, 127} {
		for _, waits := range []int{1, 2, 6} {
			for place := range waits {
				for k := range waits + 1 {
					b := resent(t, freed, waits, 2, place)
					if gone, e := b.answer(b.bsn(k)); gone != k || e != api.OK {
						b.fail("%d, %d", gone, e)
					}
					if b.b.Resends() != (k < waits) {
						b.fail("Resends: %v", b.b.Resends())
					}
					// Without one that waits Next sends the first that wasn't sent, which is behind all of them.
					want := min(max(place, k), waits)
					if u := b.next(); u.Kind != api.Signal || int(u.FSN) != (freed+want)%128 {
						b.fail("%v, want %d", u, (freed+want)%128)
					}
					b.end()
				}
			}
		}
	}
}

// P11.3: a place that is moved on by several answers.
func TestAnswerPlaceTwice(t *testing.T) {
	for first := range 7 {
		for second := range 7 - first {
			b := resent(t, 125, 6, 0, 3)
			b.answer(b.bsn(first))
			b.answer(b.bsn(second))
			for range 4 {
				b.next()
			}
			b.end()
		}
	}
}

// P11.3: a BIB that is its FIB, and one that isn't, with and without some that wait, with and without a place.
func TestAnswerBIB(t *testing.T) {
	for _, waits := range []int{0, 1, 5, 127} {
		for k := range min(waits, 6) + 1 {
			for _, place := range []int{-1, 0, 3} {
				if place >= waits {
					continue
				}
				b := filled(t, 126, waits, 1)
				if place >= 0 {
					b = resent(t, 126, waits, 1, place)
				}
				was := b.b.Fill().FIB
				b.answer(b.bsn(0))
				if b.b.Fill().FIB != was {
					b.fail("FIB is turned")
				}
				if gone, e := b.answer(b.ask(k)); gone != k || e != api.OK || b.b.Fill().FIB == was || b.b.Resends() != (k < waits) {
					b.fail("%d, %d, %v, %v", gone, e, b.b.Fill(), b.b.Resends())
				}
				if u := b.next(); u.FIB == was || int(u.FSN) != (126+k)%128 {
					b.fail("%v", u)
				}
				b.end()
			}
		}
	}
}

// P11.3: a FIB that isn't its BIB, without one that was asked for again: in each order with those that are right.
func TestTakeOdd(t *testing.T) {
	for size := range 9 {
		for bits := range 1 << size {
			b := took(t, 3)
			var all []bool
			for i := range size {
				odd := bits>>i&1 == 1
				all = append(all, odd)
				u := b.fsn(api.Signal, 1)
				if odd {
					u = b.stale()
				}
				_, ok, e := b.take(u)
				if ok == odd || (e == api.ErrRange) != again(all) || e != api.OK && e != api.ErrRange {
					b.fail("%v: %v, %d", all, ok, e)
				}
			}
		}
	}
}

// P11.3: such a FIB once, and twice among three, of each kind of unit and each FSN; and while one is asked for again.
func TestTakeStale(t *testing.T) {
	for _, kind := range []byte{api.Fill, api.Link, api.Signal, 3, 255} {
		for _, fsn := range []uint8{0, 4, 5, 6, 127, 128, 133, 255} {
			for _, asked := range []bool{false, true} {
				for between, want := range []api.Errno{api.ErrRange, api.ErrRange, api.OK} {
					b := took(t, 5)
					if asked {
						b.take(b.fsn(api.Signal, 2))
						want = api.OK
					}
					bib := b.b.Fill().BIB
					u := api.Unit{FSN: fsn, FIB: !bib, Kind: kind, Info: []byte("stale")}
					if p, ok, e := b.take(u); p != "" || ok || e != api.OK {
						b.fail("once: %x, %v, %d", p, ok, e)
					}
					for range between {
						if asked {
							b.take(b.stale())
						} else {
							b.take(b.fsn(api.Fill, 0))
						}
					}
					if p, ok, e := b.take(u); p != "" || ok || e != want {
						b.fail("%d between: %x, %v, %d, want %d", between, p, ok, e, want)
					}
					if b.b.Taken() != 4 || b.b.Fill().BIB != bib {
						b.fail("%d, %v", b.b.Taken(), b.b.Fill())
					}
					b.end()
				}
			}
		}
	}
}

// P11.3: one that is asked for again ends it: a FIB that isn't its BIB is odd then. Those that came while it was asked for weren't.
func TestTakeAskedEnds(t *testing.T) {
	for _, how := range []api.Unit{{Kind: api.Signal, FSN: 5}, {Kind: api.Fill, FSN: 4}, {Kind: api.Link, FSN: 4}, {Kind: api.Signal, FSN: 4}} {
		b := took(t, 5)
		b.take(b.fsn(api.Fill, 1))
		for range 5 {
			if _, ok, e := b.take(b.stale()); ok || e != api.OK {
				b.fail("%v, %d while it is asked for", ok, e)
			}
		}
		how.FIB = b.b.Fill().BIB
		b.take(how)
		if _, _, e := b.take(b.stale()); e != api.OK {
			b.fail("the first odd one: %d", e)
		}
		if _, _, e := b.take(b.stale()); e != api.ErrRange {
			b.fail("the second odd one: %d", e)
		}
		b.end()
	}
}

// P11.3: an odd one, ahead of that one is asked for again, is counted on.
func TestTakeOddAhead(t *testing.T) {
	b := took(t, 5)
	b.take(b.stale())
	b.take(b.fsn(api.Fill, 0))
	if _, _, e := b.take(b.stale()); e != api.ErrRange {
		b.fail("%d", e)
	}
	b.take(b.fsn(api.Fill, 1))
	if _, _, e := b.take(b.stale()); e != api.OK {
		b.fail("one is asked for again: %d", e)
	}
	b.end()
	b = took(t, 5)
	b.take(b.fsn(api.Fill, 1))
	b.take(b.stale())
	b.take(b.fsn(api.Fill, 0))
	if _, _, e := b.take(b.stale()); e != api.OK {
		b.fail("the one ahead came while it was asked for: %d", e)
	}
	b.end()
}

// P11.3: each kind of unit with each FSN from 0 to 255, with each number taken that is an edge.
func TestTake(t *testing.T) {
	for _, n := range []int{0, 1, 2, 64, 127, 128, 129, 256} {
		for _, kind := range []byte{api.Fill, api.Link, api.Signal, 3, 255} {
			for fsn := range 256 {
				b := took(t, n)
				taken := (n + 127) % 128
				p, ok, e := b.take(api.Unit{BSN: 99, BIB: false, FSN: uint8(fsn), FIB: true, Kind: kind, Info: []byte("what it says")})
				is := kind == api.Signal && fsn == n%128
				if e != api.OK || ok != is || (p == "what it says") != is || !is && p != "" {
					b.fail("%s, %v, %d", p, ok, e)
				}
				want := taken
				if is {
					want = fsn
				}
				if got := b.b.Taken(); int(got) != want {
					b.fail("Taken: %d, want %d", got, want)
				}
				if turned := !b.b.Fill().BIB; turned != (!is && fsn != taken) {
					b.fail("BIB is turned: %v", turned)
				}
				if fsn%16 == 0 {
					b.end()
				}
			}
		}
	}
}

// P11.3: any other FSN again, while one is asked for: BIB is turned each time that the FIB is right; and then the one that was asked for.
func TestTakeAgain(t *testing.T) {
	for times := range 6 {
		for _, behind := range []int{2, 3, 64, 126, 127} {
			b := took(t, 127)
			for i := range times {
				b.take(b.fsn(api.Signal, behind))
				if b.b.Fill().BIB != (i%2 == 1) {
					b.fail("%v", b.b.Fill())
				}
				for range 3 {
					b.take(b.stale())
				}
			}
			if _, ok, e := b.take(b.fsn(api.Signal, 1)); !ok || e != api.OK || b.b.Taken() != 127 {
				b.fail("%v, %d", ok, e)
			}
			if _, ok, e := b.take(b.fsn(api.Signal, 1)); !ok || e != api.OK || b.b.Taken() != 0 {
				b.fail("%v, %d", ok, e)
			}
			b.end()
		}
	}
}

// P11.3: FSNs go round from 127 to 0, more than once; a Signal without octets is taken too.
func TestTakeRound(t *testing.T) {
	b := newBoth(t)
	for i := range 400 {
		u := api.Unit{FSN: uint8(i % 128), FIB: true, Kind: api.Signal, Info: []byte(text(i))}
		if i%7 == 0 {
			u.Info = [][]byte{nil, {}}[i%2]
		}
		if p, ok, e := b.take(u); p != string(u.Info) || !ok || e != api.OK || int(b.b.Taken()) != i%128 {
			b.fail("%d: %x, %v, %d", i, p, ok, e)
		}
	}
	b.end()
}

// P11.4: Reset, of what each call may have brought about.
func TestReset(t *testing.T) {
	ways := []func(b *both){
		func(b *both) {},
		func(b *both) { b.put(5) },
		func(b *both) { b.next() },
		func(b *both) { b.answer(b.bsn(min(2, b.m.sent-b.m.freed))) },
		func(b *both) { b.answer(b.ask(0)) },
		func(b *both) { b.answer(b.ask(0)); b.next() },
		func(b *both) { b.answer(b.unknown()) },
		func(b *both) { b.answer(b.unknown()); b.answer(b.bsn(0)) },
		func(b *both) { b.answer(b.unknown()); b.answer(b.unknown()) },
		func(b *both) { b.take(b.stale()) },
		func(b *both) { b.take(b.stale()); b.take(b.fsn(api.Fill, 0)) },
		func(b *both) { b.take(b.fsn(api.Signal, 1)) },
		func(b *both) { b.take(b.fsn(api.Fill, 1)) },
	}
	for i := range ways {
		for j := range ways {
			for _, waits := range []int{0, 3, 127} {
				b := filled(t, 5, waits, 4)
				ways[i](b)
				ways[j](b)
				h := b.b.Hold()
				b.reset()
				if b.b.Hold() != h || b.b.Taken() != 127 || b.b.Resends() || h.Octets() != 0 || h.First() != 0 {
					b.fail("%d, %v, %d, %d", b.b.Taken(), b.b.Resends(), h.Octets(), h.First())
				}
				if u := b.b.Next(); !same(u, api.Unit{BSN: 127, BIB: true, FSN: 127, FIB: true}) {
					b.fail("%v", u)
				}
				b.put(3)
				ways[j](b)
				b.end()
			}
		}
	}
}

// P11.4: behind Reset no unit ahead counts, nor one that was asked for again.
func TestResetOdd(t *testing.T) {
	b := newBoth(t)
	for range 3 {
		b.answer(b.unknown())
		b.take(b.stale())
		b.reset()
		if _, e := b.answer(b.unknown()); e != api.OK {
			b.fail("%d", e)
		}
		if _, _, e := b.take(b.stale()); e != api.OK {
			b.fail("%d", e)
		}
		b.reset()
	}
	b.take(b.fsn(api.Fill, 1))
	b.reset()
	b.take(b.stale())
	if _, _, e := b.take(b.stale()); e != api.ErrRange {
		b.fail("%d", e)
	}
}

// P11.4: Resends, from the unit that asks for all again up to the last one that is sent again.
func TestResends(t *testing.T) {
	b := filled(t, 3, 3, 2)
	steps := []struct {
		do   func()
		want bool
	}{
		{func() {}, false},
		{func() { b.answer(b.bsn(0)) }, false},
		{func() { b.answer(b.ask(0)) }, true},
		{func() { b.next() }, true},
		{func() { b.next() }, true},
		{func() { b.next() }, false},
		{func() { b.next() }, false},
		{func() { b.answer(b.ask(1)) }, true},
		{func() { b.answer(b.bsn(3)) }, false},
		{func() { b.answer(b.ask(0)) }, false},
		{func() { b.next() }, false},
		{func() { b.answer(b.ask(0)) }, true},
		{func() { b.next() }, false},
	}
	for i, s := range steps {
		s.do()
		if got := b.b.Resends(); got != s.want {
			b.fail("step %d: %v, want %v", i, got, s.want)
		}
	}
	b.end()
}

// P11.4, P1: each call of a nil Basic.
func TestNil(t *testing.T) {
	var b *basic.Basic
	for range 2 {
		if h := b.Hold(); h != nil {
			t.Error("Hold", h)
		}
		if n := b.Taken(); n != 127 {
			t.Error("Taken", n)
		}
		if u := b.Fill(); !same(u, api.Unit{}) {
			t.Error("Fill", u)
		}
		if u := b.Next(); !same(u, api.Unit{}) {
			t.Error("Next", u)
		}
		for _, kind := range []byte{api.Fill, api.Link, api.Signal, 9} {
			for n := range 256 {
				u := api.Unit{BSN: uint8(n), FSN: uint8(n), FIB: n%2 == 0, BIB: n%3 == 0, Kind: kind, Info: []byte("abc")}
				if k, e := b.Answer(u); k != 0 || e != api.ErrNone {
					t.Error("Answer", k, e)
				}
				if p, ok, e := b.Take(u); len(p) != 0 || ok || e != api.ErrNone {
					t.Error("Take", p, ok, e)
				}
			}
		}
		if b.Resends() {
			t.Error("Resends")
		}
		b.Reset()
	}
}

// P1: a Basic that New hasn't made ends all its calls too.
func TestZero(t *testing.T) {
	for _, b := range []*basic.Basic{{}, {H: hold.New(9, 100)}, {H: &hold.Hold{}}} {
		for range 2 {
			b.Hold().Put([]byte("abc"))
			b.Taken()
			b.Fill()
			b.Next()
			for n := range 256 {
				for _, set := range []bool{false, true} {
					u := api.Unit{BSN: uint8(n), FSN: uint8(n), FIB: set, BIB: set, Kind: byte(n % 4)}
					b.Answer(u)
					b.Take(u)
					b.Resends()
					b.Next()
				}
			}
			b.Reset()
		}
	}
}

// P1: the Hold may be asked by others too, whatever they do to it.
func TestHoldOfOthers(t *testing.T) {
	ways := []func(h *hold.Hold){
		func(h *hold.Hold) { h.Clear() },
		func(h *hold.Hold) { h.Free(h.Last()) },
		func(h *hold.Hold) { h.Free(h.First()) },
		func(h *hold.Hold) { h.Send() },
		func(h *hold.Hold) { h.Flush() },
	}
	for _, do := range ways {
		for place := range 4 {
			b := resent(t, 3, 4, 5, place).b
			do(b.Hold())
			for range 9 {
				b.Next()
				b.Resends()
				b.Answer(b.Fill())
				b.Answer(api.Unit{BSN: b.Hold().First(), BIB: !b.Fill().FIB})
			}
			b.Reset()
		}
	}
}

// P11.2: a place is among those that wait: without its message there is none, and what is put then is sent once.
func TestPlaceIsGone(t *testing.T) {
	for place := range 4 {
		b := resent(t, 3, 4, 0, place).b
		b.Hold().Clear()
		if u := b.Next(); u.Kind != api.Fill || b.Resends() {
			t.Errorf("place %d: %v, %v", place, u, b.Resends())
		}
		b = resent(t, 3, 4, 0, place).b
		b.Hold().Clear()
		for i := range 6 {
			b.Hold().Put([]byte(text(i)))
		}
		for i := range 8 {
			if u := b.Next(); (u.Kind == api.Signal) != (i < 6) || int(u.FSN) != min(i, 5) {
				t.Errorf("place %d: %v, unit %d", place, u, i)
			}
		}
	}
}

// The rule of errors: a call that answers one has no other result, and changes nothing that any call tells but of the odd units.
func TestErrorsChangeNothing(t *testing.T) {
	for _, make := range []func() *both{
		func() *both { return newBoth(t) },
		func() *both { return filled(t, 126, 5, 2) },
		func() *both { return filled(t, 3, 127, 2) },
		func() *both { return resent(t, 126, 5, 2, 0) },
		func() *both { return resent(t, 126, 5, 2, 3) },
		func() *both { return resent(t, 3, 127, 2, 126) },
		func() *both { return took(t, 200) },
	} {
		for _, kind := range []byte{api.Fill, api.Link, api.Signal} {
			b, calm := make(), make()
			fill, resends := b.b.Fill(), b.b.Resends()
			u := b.stale()
			u.BSN, u.BIB, u.Kind = 200, !b.b.Fill().FIB, kind
			b.answer(u)
			b.take(u)
			for range 4 {
				if k, e := b.answer(u); k != 0 || e != api.ErrRange {
					b.fail("%d, %d", k, e)
				}
				if p, ok, e := b.take(u); p != "" || ok || e != api.ErrRange {
					b.fail("%x, %v, %d", p, ok, e)
				}
				if !same(b.b.Fill(), fill) || b.b.Resends() != resends {
					b.fail("%v, %v", b.b.Fill(), b.b.Resends())
				}
			}
			b.rest()
			// Behind two units that are right the odd ones are forgotten: then it does as one that never got them.
			for _, x := range []*both{b, calm} {
				for range 2 {
					x.answer(x.bsn(0))
					x.take(x.fsn(api.Fill, 0))
				}
			}
			for range calm.m.sent - calm.m.freed + 4 {
				if got, want := b.next(), calm.next(); !same(got, want) {
					b.fail("%v, want %v", got, want)
				}
			}
			b.end()
		}
	}
}

// The rule of memory: what Take and Next answered stays as it is, whatever is asked then, and may be appended to.
func TestAnswersStay(t *testing.T) {
	b := basic.New(100, 1000)
	for i := range 9 {
		b.Hold().Put([]byte(text(i)))
	}
	var sent []api.Unit
	for range 5 {
		sent = append(sent, b.Next())
	}
	b.Answer(api.Unit{BSN: 1, BIB: false})
	for range 3 {
		sent = append(sent, b.Next())
	}
	in := []byte("what is handed in")
	array := string(in)
	var took [][]byte
	for i := range 3 {
		p, ok, e := b.Take(api.Unit{FSN: uint8(i), FIB: true, Kind: api.Signal, Info: in[i : i+5]})
		if !ok || e != api.OK || string(p) != array[i:i+5] {
			t.Fatalf("%s, %v, %d", p, ok, e)
		}
		took = append(took, p)
	}
	was := fmt.Sprint(sent, took)
	for _, p := range took {
		_ = append(p, "appended"...)
	}
	for _, u := range sent {
		_ = append(u.Info, "appended"...)
	}
	if string(in) != array {
		t.Fatalf("what was handed in is %s now", in)
	}
	scribble(in)
	b.Answer(api.Unit{BSN: 4, BIB: false})
	for range 9 {
		b.Next()
	}
	b.Reset()
	b.Hold().Put(bytes.Repeat([]byte("x"), 20))
	b.Next()
	if now := fmt.Sprint(sent, took); now != was {
		t.Errorf("%s, was %s", now, was)
	}
}

// chance is a unit that is chosen by chance, most often one that isn't odd.
func (b *both) chance(r *rand.Rand) api.Unit {
	u := api.Unit{BSN: b.bsn(r.Intn(b.m.sent - b.m.freed + 1)).BSN, FSN: b.fsn(0, 1).FSN, BIB: b.m.fib, FIB: b.m.bib, Kind: api.Signal}
	if r.Intn(3) == 0 {
		u.BSN = b.bsn(0).BSN
	}
	if r.Intn(12) == 0 {
		u.BSN = uint8(r.Intn(256))
	}
	if r.Intn(12) == 0 {
		u.BIB = !u.BIB
	}
	if r.Intn(8) == 0 {
		u.FIB = !u.FIB
	}
	if r.Intn(4) == 0 {
		u.FSN = uint8(b.m.taken)
	}
	if r.Intn(12) == 0 {
		u.FSN = uint8(r.Intn(256))
	}
	if r.Intn(4) == 0 {
		u.Kind = byte(r.Intn(4))
	}
	if u.Kind == api.Signal {
		u.Info = []byte(text(r.Intn(1 << 20)))
	}
	return u
}

// play does one call, chosen by chance, and holds what it answers against the model.
func (b *both) play(r *rand.Rand) {
	b.did = "by chance"
	switch r.Intn(12) {
	case 0, 1, 2:
		b.put(r.Intn(3))
	case 3, 4, 5, 6:
		b.next()
	case 7, 8:
		b.answer(b.chance(r))
	case 9, 10:
		b.take(b.chance(r))
	case 11:
		switch r.Intn(60) {
		case 0:
			b.reset()
		case 1:
			b.flush()
		case 2:
			b.put(130)
		case 3, 4:
			for range 140 {
				b.next()
			}
		default:
			b.next()
		}
	}
}

// P11.2 to P11.4, P2: long sequences of calls, chosen by chance, two Basics side by side.
func TestPlay(t *testing.T) {
	for seed := range 30 {
		r := rand.New(rand.NewSource(int64(seed)))
		a, other := newBoth(t), newBoth(t)
		for i := range 3000 {
			a.play(r)
			other.play(r)
			if i%500 == 0 {
				a.rest()
				other.rest()
			}
		}
		a.end()
		other.end()
	}
}

// line is units that are under way.
type line struct {
	units []api.Unit
	delay int
}

// sides are two Basics joined by two lines; what each was given, and what the other one took of that.
type sides struct {
	t           *testing.T
	r           *rand.Rand
	b           [2]*basic.Basic
	l           [2]line // to each side
	given, came [2][]string
	lost        int
}

func newSides(t *testing.T, r *rand.Rand, most, delay int) *sides {
	return &sides{t: t, r: r, b: [2]*basic.Basic{basic.New(most, 1<<20), basic.New(most, 1<<20)}, l: [2]line{{delay: delay}, {delay: r.Intn(delay + 1)}}}
}

func (s *sides) put(side, n int) {
	for range n {
		p := text(len(s.given[side])*2 + side)
		if s.b[side].Hold().Put([]byte(p)) == api.OK {
			s.given[side] = append(s.given[side], p)
		}
	}
}

// send: a side's next unit is under way, or it is lost.
func (s *sides) send(side int, lost bool) {
	u := s.b[side].Next()
	if u.BSN > 127 || u.FSN > 127 || u.Kind != api.Fill && u.Kind != api.Signal {
		s.t.Fatalf("side %d sends %v", side, u)
	}
	if lost {
		s.lost++
		return
	}
	l := &s.l[1-side]
	l.units = append(l.units, u)
}

// hear: a side gets the unit that has been under way for long enough.
func (s *sides) hear(side int) {
	l := &s.l[side]
	if len(l.units) <= l.delay {
		return
	}
	u := l.units[0]
	l.units = l.units[1:]
	if _, e := s.b[side].Answer(u); e != api.OK {
		s.t.Fatalf("side %d, Answer of %v: %d", side, u, e)
	}
	p, ok, e := s.b[side].Take(u)
	if e != api.OK || !ok && len(p) != 0 {
		s.t.Fatalf("side %d, Take of %v: %x, %v, %d", side, u, p, ok, e)
	}
	if !ok {
		return
	}
	given := s.given[1-side]
	if n := len(s.came[side]); n >= len(given) || given[n] != string(p) {
		s.t.Fatalf("side %d took %x, its message %d", side, p, n)
	}
	s.came[side] = append(s.came[side], string(p))
}

// tick: each side sends a unit and gets one.
func (s *sides) tick(loss [2]float64) {
	for side := range 2 {
		s.send(side, s.r.Float64() < loss[side])
	}
	for side := range 2 {
		s.hear(side)
	}
}

// finish: no more is lost: all comes.
func (s *sides) finish() {
	for range 4 * (1200 + s.l[0].delay + s.l[1].delay) {
		s.tick([2]float64{})
	}
	for side := range 2 {
		if !slices.Equal(s.came[side], s.given[1-side]) {
			s.t.Fatalf("side %d took %d of %d", side, len(s.came[side]), len(s.given[1-side]))
		}
		h := s.b[side].Hold()
		if h.Sent() != 0 || h.Next() != 0 || s.b[side].Resends() {
			s.t.Fatalf("side %d: %d wait, %d weren't sent", side, h.Sent(), h.Next())
		}
	}
}

// P11.2, P11.3: two Basics joined by lines that lose units, but alter none: what one takes is the beginning of what the other one was given, and at last all of it.
func TestLines(t *testing.T) {
	losses := [][2]float64{{0, 0}, {0.02, 0.02}, {0.3, 0.3}, {0.8, 0.8}, {0, 0.5}, {0.5, 0}, {0.95, 0.1}, {0.1, 0.95}}
	came := 0
	for seed := range 64 {
		r := rand.New(rand.NewSource(int64(seed)))
		s := newSides(t, r, []int{5, 200, 512}[seed%3], []int{0, 1, 3, 20, 150}[seed%5])
		for range 6000 {
			if r.Intn(2) == 0 {
				s.put(r.Intn(2), r.Intn(3))
			}
			s.tick(losses[seed%8])
		}
		came += len(s.came[0]) + len(s.came[1])
		s.finish()
	}
	if came < 64*500 {
		t.Errorf("%d came while units were lost: little is tested", came)
	}
}

// P11.2, P11.3: the same, where whole stretches are lost, one way, the other way, or both; with the window full, and empty.
func TestLinesInStretches(t *testing.T) {
	for seed := range 40 {
		r := rand.New(rand.NewSource(int64(1000 + seed)))
		s := newSides(t, r, 512, []int{0, 2, 9, 130}[seed%4])
		for range 60 {
			loss := [2]float64{float64(r.Intn(2)), float64(r.Intn(2))}
			if r.Intn(2) == 0 {
				loss = [2]float64{}
			}
			s.put(0, r.Intn(200)*r.Intn(2))
			s.put(1, r.Intn(200)*r.Intn(2))
			for range r.Intn(300) {
				s.tick(loss)
			}
		}
		if s.lost == 0 {
			t.Error("nothing was lost")
		}
		s.finish()
	}
}

// P11.2, P11.3: the same, where the sides send and hear by turns that are chosen by chance.
func TestLinesUneven(t *testing.T) {
	for seed := range 40 {
		r := rand.New(rand.NewSource(int64(2000 + seed)))
		s := newSides(t, r, 300, 0)
		for range 12000 {
			side := r.Intn(2)
			switch r.Intn(5) {
			case 0:
				s.put(side, r.Intn(2))
			case 1, 2:
				s.send(side, r.Intn(4) == 0)
			default:
				s.hear(side)
			}
		}
		for range 12000 {
			s.hear(0)
			s.hear(1)
		}
		s.finish()
	}
}

// P2: of the same calls the same answers, whatever other Basics do.
func TestAgain(t *testing.T) {
	run := func(between func()) string {
		b := basic.New(40, 400)
		s := ""
		for i := range 600 {
			b.Hold().Put([]byte(text(i)))
			between()
			s += fmt.Sprintln(b.Next(), b.Resends())
			between()
			u := api.Unit{BSN: uint8(i / 3), BIB: i%7 < 4, FSN: uint8(i / 2), FIB: i%11 < 8, Kind: byte(i % 3), Info: []byte(text(i))}
			s += fmt.Sprintln(b.Answer(u))
			between()
			s += fmt.Sprintln(b.Take(u))
			s += fmt.Sprintln(b.Fill(), b.Taken(), b.Hold().Sent())
			if i%150 == 149 {
				b.Reset()
			}
		}
		return s
	}
	other := basic.New(500, 5000)
	alone := run(func() {})
	beside := run(func() {
		other.Hold().Put([]byte("others"))
		other.Take(other.Next())
		other.Answer(api.Unit{BSN: 77})
	})
	if alone != beside {
		t.Error("the same calls were answered otherwise")
	}
}

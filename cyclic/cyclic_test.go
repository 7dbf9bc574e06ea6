package cyclic_test

import (
	"bytes"
	"fmt"
	"math"
	"math/rand"
	"slices"
	"strconv"
	"strings"
	"testing"

	"signalman/api"
	"signalman/cyclic"
	"signalman/hold"
)

// much is an n1, or an n2, that is never met.
const much = 1 << 30

// model is a Cyclic by the document's words. It counts messages from the first one on, and never goes round: a number is made of a count where a unit has one.
type model struct {
	n1, n2      int
	all         []string // each that was put
	freed, sent int
	place       int // the count of the message that is sent again next; sent: it is behind the last one
	forced      bool
	taken       int
	odd         []bool // of each unit that was given to Answer: was its BSN unknown?
}

func newModel(n1, n2 int) *model { return &model{n1: max(n1, 1), n2: max(n2, 1), taken: 127} }

func (m *model) unit(kind byte, count int, info string) api.Unit {
	return api.Unit{BSN: uint8(m.taken), BIB: true, FSN: uint8((count + 128) % 128), FIB: true, Kind: kind, Info: []byte(info)}
}

func (m *model) fill() api.Unit { return m.unit(api.Fill, m.sent-1, "") }

func (m *model) unsent() bool { return m.sent < len(m.all) }

// fits: does the first one that wasn't sent?
func (m *model) fits() bool {
	if m.freed == m.sent {
		return true
	}
	octets := len(strings.Join(m.all[m.freed:m.sent+1], ""))
	return m.sent-m.freed < m.n1 && octets <= m.n2
}

func (m *model) next() api.Unit {
	if m.unsent() && !m.fits() {
		m.forced = true
	}
	if !m.forced && m.unsent() && m.sent-m.freed < 127 {
		m.sent++
		return m.unit(api.Signal, m.sent-1, m.all[m.sent-1])
	}
	if m.place == m.sent {
		m.place = m.freed
		m.forced = m.unsent() && !m.fits()
	}
	if m.place == m.sent {
		return m.fill()
	}
	m.place++
	return m.unit(api.Signal, m.place-1, m.all[m.place-1])
}

// again: was the last one odd, and one of the two ahead?
func again(odd []bool) bool {
	n := len(odd) - 1
	return odd[n] && slices.Contains(odd[max(n-2, 0):n], true)
}

func (m *model) answer(u api.Unit) (int, api.Errno) {
	known := -1
	for count := m.freed; count <= m.sent; count++ {
		if (count+127)%128 == int(u.BSN) {
			known = count
		}
	}
	m.odd = append(m.odd, known < 0)
	if again(m.odd) {
		return 0, api.ErrRange
	}
	if known < 0 {
		return 0, api.OK
	}
	k := known - m.freed
	m.freed = known
	if m.place < m.freed {
		m.place = m.freed
	}
	return k, api.OK
}

func (m *model) take(u api.Unit) (string, bool) {
	if u.Kind != api.Signal || int(u.FSN) != (m.taken+1)%128 {
		return "", false
	}
	m.taken = int(u.FSN)
	return string(u.Info), true
}

// both is a Cyclic and its model, that are asked the same.
type both struct {
	t   *testing.T
	c   *cyclic.Cyclic
	m   *model
	did string
}

func newBoth(t *testing.T, n1, n2 int) *both {
	return &both{t, cyclic.New(much, much, n1, n2), newModel(n1, n2), fmt.Sprintf("New %d %d", n1, n2)}
}

func (b *both) fail(form string, args ...any) {
	b.t.Helper()
	b.t.Fatalf("%.300s: %.600s", b.did, fmt.Sprintf(form, args...))
}

// same: are two units one? (nil and empty lists are the same.)
func same(a, b api.Unit) bool {
	return a.BSN == b.BSN && a.FSN == b.FSN && a.BIB == b.BIB && a.FIB == b.FIB && a.Kind == b.Kind && a.Status == b.Status && a.Wide == b.Wide && bytes.Equal(a.Info, b.Info)
}

// waits: how many do.
func (b *both) waits() int { return b.m.sent - b.m.freed }

// look holds all that is told without changing anything against the model.
func (b *both) look() {
	b.t.Helper()
	if got, want := b.c.Fill(), b.m.fill(); !same(got, want) {
		b.fail("Fill: %v, want %v", got, want)
	}
	if got, want := b.c.Taken(), b.m.taken; int(got) != want {
		b.fail("Taken: %d, want %d", got, want)
	}
	if got, want := b.c.Resends(), b.m.forced; got != want {
		b.fail("Resends: %v, want %v", got, want)
	}
	h := b.c.Hold()
	if h == nil || h != b.c.H {
		b.fail("the Hold is another one")
	}
	got := [3]int{int(h.First()), h.Sent(), h.Next()}
	if want := [3]int{b.m.freed % 128, b.waits(), len(b.m.all) - b.m.sent}; got != want {
		b.fail("First, Sent, Next of the Hold: %v, want %v", got, want)
	}
}

// rest holds the Hold's messages against the model.
func (b *both) rest() {
	b.t.Helper()
	l, e := b.c.Hold().Rest(uint8((b.m.freed + 127) % 128))
	if e != api.OK || !slices.EqualFunc(l, b.m.all[b.m.freed:], func(p []byte, w string) bool { return string(p) == w }) {
		b.fail("the Hold's messages: %x, %d, want %x", l, e, b.m.all[b.m.freed:])
	}
}

// put: one more message of each of these sizes.
func (b *both) put(sizes ...int) {
	b.t.Helper()
	for _, size := range sizes {
		p := text(len(b.m.all), size)
		if e := b.c.Hold().Put([]byte(p)); e != api.OK {
			b.fail("Put: %d", e)
		}
		b.m.all = append(b.m.all, p)
		b.did += fmt.Sprintf(", Put %d", size)
	}
	b.look()
}

// next holds a Next against the model, and writes over what it answered.
func (b *both) next() api.Unit {
	b.t.Helper()
	b.did += ", Next"
	got, want := b.c.Next(), b.m.next()
	if !same(got, want) {
		b.fail("%v, want %v", got, want)
	}
	scribble(got.Info)
	b.look()
	return want
}

func (b *both) answer(u api.Unit) (int, api.Errno) {
	b.t.Helper()
	b.did += fmt.Sprintf(", Answer of %v", u)
	in := u
	in.Info = room(u.Info)
	k, e := b.c.Answer(in)
	wk, we := b.m.answer(u)
	if k != wk || e != we {
		b.fail("%d, %d, want %d, %d", k, e, wk, we)
	}
	if !same(in, u) {
		b.fail("what was handed in is %v now", in)
	}
	b.look()
	return k, e
}

// take holds a Take against the model, and writes over what it answered, and what was handed in.
func (b *both) take(u api.Unit) (string, bool) {
	b.t.Helper()
	b.did += fmt.Sprintf(", Take of %v", u)
	in := u
	in.Info = room(u.Info)
	p, ok, e := b.c.Take(in)
	wp, wok := b.m.take(u)
	if string(p) != wp || ok != wok || e != api.OK {
		b.fail("%x, %v, %d, want %x, %v", p, ok, e, wp, wok)
	}
	scribble(p)
	if !same(in, u) {
		b.fail("what was handed in is %v now", in)
	}
	scribble(in.Info)
	b.look()
	return wp, ok
}

func (b *both) flush() {
	b.t.Helper()
	b.did += ", Flush"
	b.c.Hold().Flush()
	b.m.all = b.m.all[:b.m.sent]
	b.look()
}

func (b *both) reset() {
	b.t.Helper()
	b.did += ", Reset"
	b.c.Reset()
	b.m = newModel(b.m.n1, b.m.n2)
	b.look()
}

// bsn is a unit that answers the first so many of those that wait.
func (b *both) bsn(k int) api.Unit { return api.Unit{BSN: uint8((b.m.freed + k + 127) % 128)} }

// unknown is a unit whose BSN the Hold doesn't know.
func (b *both) unknown() api.Unit {
	if b.waits() == 127 {
		return api.Unit{BSN: 128}
	}
	return api.Unit{BSN: uint8(b.m.sent % 128)}
}

// fsn is a Signal so many behind Taken.
func (b *both) fsn(behind int) api.Unit {
	return api.Unit{FSN: uint8((b.m.taken + behind + 128) % 128), Kind: api.Signal, Info: []byte(text(behind+5000, 3))}
}

// end plays on until what calls don't tell at once is to be seen too: the place, which units were odd, the bounds, and what the Hold has.
func (b *both) end() {
	b.t.Helper()
	b.rest()
	for range b.waits() + 3 {
		b.next()
	}
	b.answer(b.unknown())
	b.answer(b.bsn(0))
	b.answer(b.unknown())
	b.answer(b.bsn(b.waits() / 2))
	b.put(3, 5)
	for range b.waits() + 3 {
		b.next()
	}
	b.answer(b.bsn(b.waits()))
	for range 4 {
		b.next()
	}
	b.take(b.fsn(1))
	b.rest()
}

// room is a message with octets behind it in its array.
func room(p []byte) []byte { return append(make([]byte, 0, len(p)+8), p...) }

// scribble writes over a message, and over what its array has room for.
func scribble(p []byte) {
	p = append(p, 0xee)
	p = p[:cap(p)]
	for i := range p {
		p[i] = 0xee
	}
}

// text is a message of so many octets (3 at least) that is told from others by its key.
func text(key, size int) string {
	return string([]byte{byte(key >> 16), byte(key >> 8), byte(key)}) + strings.Repeat("\a", size-3)
}

// threes: so many messages of three octets.
func threes(n int) []int { return slices.Repeat([]int{3}, n) }

// filled: so many messages were sent and freed, so many wait, of so many that weren't sent; the place is the first one that waits.
func filled(t *testing.T, n1, n2, freed, waits, next int) *both {
	t.Helper()
	b := newBoth(t, n1, n2)
	for range freed {
		b.put(3)
		b.next()
		b.answer(b.bsn(1))
		b.did = ""
	}
	b.put(threes(waits)...)
	for range waits {
		b.next()
	}
	b.put(threes(next)...)
	b.did = fmt.Sprintf("New %d %d, %d freed, %d wait, %d weren't sent", n1, n2, b.m.freed, b.waits(), len(b.m.all)-b.m.sent)
	if b.m.freed != freed || b.waits() != waits || b.m.place != freed {
		b.fail("it isn't filled")
	}
	return b
}

// resent: filled, with nothing that wasn't sent, and a place at one of those that wait, or behind the last.
func resent(t *testing.T, freed, waits, place int) *both {
	t.Helper()
	b := filled(t, much, much, freed, waits, 0)
	for range place {
		b.next()
	}
	if b.m.place != freed+place || b.m.forced {
		b.fail("the place is %d", b.m.place)
	}
	return b
}

// forced: filled, with one that doesn't fit, as so many wait as may, and a place behind the first one.
func forced(t *testing.T, freed, waits, place int) *both {
	t.Helper()
	b := filled(t, waits, much, freed, waits, 1)
	for range place {
		b.next()
	}
	if b.m.place != freed+place || !b.m.forced {
		b.fail("the place is %d", b.m.place)
	}
	return b
}

// script does what the words say, in order: +N: Put of N octets (3 without a number); a number: Next is the Signal of that FSN, and "-": is Fill; aN: Answer with BSN N, and "?": with one that isn't known; "!" and ".": Resends, or not; f: Flush; r: Reset.
func (b *both) script(words string) {
	b.t.Helper()
	for i, w := range strings.Fields(words) {
		n, e := strconv.Atoi(strings.TrimLeft(w, "+a"))
		right := true
		switch {
		case w[0] == '+' && e != nil:
			b.put(3)
		case w[0] == '+':
			b.put(n)
		case w[0] == 'a':
			_, e := b.answer(api.Unit{BSN: uint8(n)})
			right = e == api.OK
		case w == "?":
			_, e := b.answer(b.unknown())
			right = e == api.OK
		case w == "!", w == ".":
			right = b.c.Resends() == (w == "!")
		case w == "f":
			b.flush()
		case w == "r":
			b.reset()
		default:
			u := b.next()
			right = w == "-" && u.Kind == api.Fill || u.Kind == api.Signal && strconv.Itoa(int(u.FSN)) == w
		}
		if !right {
			b.fail("the word %d, %s, of: %s", i, w, words)
		}
	}
	b.end()
}

// play is a script from the beginning on.
type play struct {
	n1, n2 int
	words  string
}

func plays(t *testing.T, all []play) {
	t.Helper()
	for _, p := range all {
		newBoth(t, p.n1, p.n2).script(p.words)
	}
}

// The chapter's example.
func TestExample(t *testing.T) {
	c := cyclic.New(9, 100, 2, 100)
	if e := c.Hold().Put([]byte("hey")); e != api.OK {
		t.Fatal(e)
	}
	for range 2 {
		u := c.Next()
		if u.Kind != api.Signal || u.FSN != 0 || u.BSN != 127 || !u.FIB || !u.BIB || string(u.Info) != "hey" || u.Status != 0 || u.Wide {
			t.Errorf("%v", u)
		}
	}
}

// P12.1: New: what each call tells of it, whatever n1 and n2 are.
func TestNew(t *testing.T) {
	numbers := []int{math.MinInt, -1, 0, 1, 2, 127, 128, 300, math.MaxInt}
	for _, n1 := range numbers {
		for _, n2 := range numbers {
			c := cyclic.New(9, 100, n1, n2)
			if c.Hold() == nil || c.Hold() != c.H || c.Taken() != 127 || c.Resends() {
				t.Error(c.Hold(), c.Taken(), c.Resends())
			}
			fill := api.Unit{BSN: 127, BIB: true, FSN: 127, FIB: true, Kind: api.Fill}
			for range 3 {
				if u := c.Fill(); !same(u, fill) {
					t.Errorf("Fill: %v", u)
				}
				if u := c.Next(); !same(u, fill) {
					t.Errorf("Next: %v", u)
				}
			}
			newBoth(t, n1, n2).end()
		}
	}
}

// P12.1: n1 and n2 of 1, and of less: one waits at a time.
func TestNewLeast(t *testing.T) {
	words := "+ +273 + 0 . 0 ! 0 ! a0 ! - . 1 . 1 ! 1 ! a1 - 2 . 2 . 2"
	for _, n := range []int{1, 0, -1, math.MinInt} {
		plays(t, []play{{n, much, words}, {much, n, words}, {n, n, words}, {n, math.MaxInt, words}, {math.MaxInt, n, words}})
	}
}

// P12.1: the Hold has the room that New was given, and keeps it behind Reset.
func TestRoom(t *testing.T) {
	for _, x := range []struct{ most, octets, fits int }{{2, 100, 2}, {0, 100, 0}, {-1, 100, 0}, {9, 8, 2}, {9, 9, 3}, {9, 0, 0}, {9, -1, 0}, {512, 1 << 20, 512}} {
		c := cyclic.New(x.most, x.octets, 1, 1)
		for range 2 {
			n := 0
			for n < 1000 && c.Hold().Put([]byte("abc")) == api.OK {
				n++
			}
			if n != x.fits {
				t.Errorf("New(%d, %d): %d messages, want %d", x.most, x.octets, n, x.fits)
			}
			c.Reset()
		}
	}
}

// P12.1: Fill's FSN is the Hold's Last: with nothing that waits, at the beginning and later, and with some that wait; its BSN is Taken.
func TestFill(t *testing.T) {
	for _, x := range []struct{ freed, waits, next, fsn int }{
		{0, 0, 0, 127}, {0, 0, 2, 127}, {0, 1, 0, 0}, {0, 127, 0, 126}, {5, 0, 0, 4}, {5, 3, 1, 7}, {128, 0, 0, 127}, {127, 2, 0, 0}, {129, 0, 4, 0}, {300, 127, 1, 42},
	} {
		b := filled(t, 127, much, x.freed, x.waits, x.next)
		for i := range 3 {
			u := b.c.Fill()
			if want := (api.Unit{BSN: uint8((127 + i) % 128), BIB: true, FSN: uint8(x.fsn), FIB: true}); !same(u, want) {
				b.fail("Fill: %v, want %v", u, want)
			}
			b.take(b.fsn(1))
		}
		b.end()
	}
}

// P12.1: each unit has BSN Taken and both indicators set, whatever came, with those that are sent first, and again.
func TestUnits(t *testing.T) {
	b := filled(t, 3, much, 126, 0, 5)
	for i := range 300 {
		for _, u := range []api.Unit{b.next(), b.c.Next(), b.c.Fill()} {
			if u.BSN != b.c.Taken() || !u.BIB || !u.FIB || u.Status != 0 || u.Wide || (u.Kind == api.Fill) != (len(u.Info) == 0) {
				b.fail("%v, Taken %d", u, b.c.Taken())
			}
		}
		b.m.next()
		u := b.fsn(1 - i%3)
		u.BSN, u.BIB, u.FIB = b.bsn(i%2).BSN, i%4 < 2, i%8 < 4
		b.answer(u)
		b.take(u)
		b.put(3)
		b.did = ""
	}
	b.end()
}

// P12.1: with none that waits one more fits, however many octets it has.
func TestFitsAlone(t *testing.T) {
	for size := 3; size <= 273; size++ {
		for _, n2 := range []int{1, size - 1, size, size + 1} {
			for _, n1 := range []int{1, 2, 127} {
				b := newBoth(t, n1, n2)
				b.put(size)
				if u := b.next(); u.Kind != api.Signal || u.FSN != 0 || len(u.Info) != size || b.c.Resends() {
					b.fail("%v", u)
				}
				b.answer(b.bsn(1))
				b.put(size)
				if u := b.next(); u.Kind != api.Signal || u.FSN != 1 || b.c.Resends() {
					b.fail("%v", u)
				}
			}
		}
	}
}

// fitting: is the message behind those that wait sent first, and not forced; or those sent again?
func (b *both) fitting(fits bool) {
	b.t.Helper()
	waits := b.waits()
	want := b.m.freed % 128
	if fits {
		want = b.m.sent % 128
	}
	if u := b.next(); u.Kind != api.Signal || int(u.FSN) != want || b.c.Resends() == fits || (b.waits() > waits) != fits {
		b.fail("%v, want %d, %v", u, want, b.c.Resends())
	}
	b.end()
}

// P12.1: with fewer than n1, with n1 less one, and with n1 that wait.
func TestFitsMessages(t *testing.T) {
	for _, freed := range []int{0, 100} {
		for n1 := 1; n1 <= 127; n1 += 1 + n1/6 {
			for _, less := range []int{0, 1, 2, n1 - 1} {
				if waits := n1 - less; waits > 0 {
					filled(t, n1, much, freed, waits, 1).fitting(waits < n1)
				}
			}
		}
		filled(t, 127, much, freed, 126, 1).fitting(true)
		filled(t, 127, much, freed, 127, 1).fitting(false)
	}
}

// P12.1: with just n2 octets with it, and one more, one less.
func TestFitsOctets(t *testing.T) {
	for _, waits := range []int{1, 2, 7, 126} {
		for _, size := range []int{3, 4, 100, 273} {
			for _, over := range []int{-100, -1, 0, 1, 2, 100} {
				n2 := 3*waits + size - over
				if n2 < 3*waits {
					continue
				}
				b := filled(t, much, n2, 126, waits, 0)
				b.put(size)
				b.fitting(over <= 0)
				// What waits has the octets: the next one is short.
				if waits == 1 {
					b = newBoth(t, much, n2)
					b.put(size, 3)
					b.next()
					b.fitting(over <= 0)
				}
			}
		}
	}
}

// P12.1: both bounds hold: neither makes up for the other one; and what was freed counts no more.
func TestFitsBoth(t *testing.T) {
	plays(t, []play{
		{2, 9, "+ + + 0 1 . 0 !"},
		{3, 8, "+ + + 0 1 . 0 !"},
		{3, 9, "+ + + + 0 1 2 . 0 !"},
		{9, 10, "+3 +7 +3 0 1 . 0 ! 1 !"},
		{9, 10, "+3 +8 0 . 0 ! 0 !"},
		{9, 10, "+200 +3 0 . 0 ! a0 ! - . 1 . 1"},
		{9, 10, "+3 +4 0 1 a0 +6 2 . 1 . 2 +3 1 ! 2 !"},
		{2, 100, "+ + 0 1 a0 + 2 . + 1 ! 2 !"},
	})
}

// P12.2: Next with nothing at all, with one, and with nothing new: what waits goes again and again, from the first one to the last and on from the first.
func TestNextScripts(t *testing.T) {
	plays(t, []play{
		{9, 100, "- - - . f - r - ."},
		{9, 100, "+ 0 . 0 . 0 ."},
		{9, 100, "+ + 0 1 0 1 0 1 0 ."},
		{9, 100, "+ + 0 1 0 1 0 + 2 1 2 0 1 2 0 ."},
		{9, 100, "+ + + 0 1 2 0 1 2 + 3 3 0 1 2 3 0"},
		{9, 100, "+ + 0 1 0 a1 - . - + 2 2 + 3 3 2 3 2"},
		{9, 100, "+ 0 a0 - - + 1 1 1 a1 -"},
		{9, 100, "+ 0 f 0 + f 0 ."},
	})
}

// P12.2: one that doesn't fit forces it, till the place has gone round, and on, where one still doesn't fit.
func TestForcedScripts(t *testing.T) {
	plays(t, []play{
		{2, 100, "+ + + 0 1 . 0 ! 1 ! 0 ! 1 ! 0 !"},
		// One waits no more: it is forced up to the last one; then the first one goes once more.
		{2, 100, "+ + + 0 1 . 0 ! a0 ! 1 ! 1 . 2 . 2 . 1 . 2"},
		// Then the next one doesn't fit.
		{2, 100, "+ + + + 0 1 0 ! a0 ! 1 ! 1 . 2 . 2 ! 1 ! 2 !"},
		// All wait no more: a Fill goes ahead of the next one.
		{2, 100, "+ + + 0 1 0 ! a1 ! - . 2 . 2"},
		// New ones are put while it is forced.
		{2, 100, "+ + + 0 1 0 ! + 1 ! + 0 ! a1 ! - . 2 . 3 . 2 ! 3 ! 2 !"},
		// It is forced in the middle of a round.
		{3, 100, "+ + 0 1 0 + + 2 . 1 ! 2 ! 0 ! a0 ! 1 ! 2 ! 1 . 3 . 2 . 3 . 1"},
		// It is forced with the place behind the last one.
		{2, 100, "+ + 0 1 0 1 . + 0 ! 1 ! a0 ! 1 . 2 . 2 1"},
		// What didn't fit is thrown away: it is forced up to the last one nevertheless.
		{2, 100, "+ + + 0 1 0 ! f ! 1 ! 0 . 1 . 0 . + 1 ! 0 ! 1 !"},
		{2, 100, "+ + + 0 1 0 ! f + ! 1 ! 0 ! 1 !"},
		// A shorter one that fits comes in place of what was thrown away.
		{9, 10, "+ + +5 0 1 0 ! f +4 ! 1 ! 0 . 2 . 1"},
		// An answer of none, and odd ones, change nothing.
		{2, 100, "+ + + 0 1 0 ! ? ! a127 ! 1 ! a127 ! a127 ! ? ! 0 ! 1 !"},
		// Put alone forces nothing.
		{1, 100, "+ 0 . + . + . f . 0 . + . 0 !"},
		{1, 100, "+ + 0 0 ! r . - . + 0 . 0 ."},
	})
}

// P12.2: with nothing new what waits goes round, from each place on, where the numbers go round too.
func TestNextRound(t *testing.T) {
	for _, freed := range []int{0, 3, 125, 127} {
		for _, waits := range []int{1, 2, 5, 126, 127} {
			b := filled(t, 127, much, freed, waits, 0)
			for i := range 3*waits + 2 {
				u := b.next()
				if want := freed + i%waits; u.Kind != api.Signal || int(u.FSN) != want%128 || string(u.Info) != text(want, 3) || b.c.Resends() {
					b.fail("%v, want %d", u, want)
				}
			}
			b.end()
		}
	}
}

// P12.2: one that wasn't sent, and that fits, goes first, from each place; the place stays.
func TestNextNew(t *testing.T) {
	for _, freed := range []int{0, 1, 126, 127} {
		for _, waits := range []int{0, 1, 2, 5, 120} {
			for _, place := range []int{0, 1, waits / 2, waits - 1, waits} {
				if place < 0 || place > waits {
					continue
				}
				b := resent(t, freed, waits, place)
				b.put(3, 4, 5)
				for i := range 3 {
					if u := b.next(); u.Kind != api.Signal || int(u.FSN) != (freed+waits+i)%128 || string(u.Info) != text(freed+waits+i, 3+i) || b.c.Resends() {
						b.fail("%v", u)
					}
				}
				for i := range waits + 3 {
					if u := b.next(); u.Kind != api.Signal || int(u.FSN) != (freed+(place+i)%(waits+3))%128 {
						b.fail("%v at the place %d and %d", u, place, i)
					}
				}
				b.end()
			}
		}
	}
}

// P12.2: with Window that wait no new one is sent, until one waits no more; what waits goes again.
func TestNextWindow(t *testing.T) {
	for _, n1 := range []int{127, 128, 500, math.MaxInt} {
		for _, freed := range []int{0, 1, 64, 127} {
			b := filled(t, n1, much, freed, 127, 3)
			for i := range 300 {
				// It fits where n1 is above Window: nothing is forced, though none can be sent.
				if u := b.next(); u.Kind != api.Signal || int(u.FSN) != (freed+i%127)%128 || b.c.Resends() != (n1 == 127) || b.waits() != 127 {
					b.fail("%v with Window that wait, %v", u, b.c.Resends())
				}
			}
			b.answer(b.bsn(2))
			for range 300 {
				b.next()
				if b.waits() > 127 {
					b.fail("%d wait", b.waits())
				}
			}
			if b.waits() != 127 || b.c.Hold().Next() != 1 {
				b.fail("%d wait", b.waits())
			}
			b.end()
		}
	}
}

// P12.2: while it is forced none is sent, from the first place up to the last, and around; when one fits there, none is forced any more.
func TestForcedRound(t *testing.T) {
	for _, freed := range []int{0, 3, 126} {
		for _, waits := range []int{1, 2, 5, 127} {
			for _, place := range []int{1, 2, waits - 1, waits} {
				if place < 1 || place > waits {
					continue
				}
				for k := range min(waits, 4) + 1 {
					b := forced(t, freed, waits, place)
					b.put(3)
					b.answer(b.bsn(k))
					for i := max(place, k); i < waits; i++ {
						if u := b.next(); u.Kind != api.Signal || int(u.FSN) != (freed+i)%128 || !b.c.Resends() {
							b.fail("%v, %v, want %d", u, b.c.Resends(), (freed+i)%128)
						}
					}
					u := b.next()
					if k < waits && (u.Kind != api.Signal || int(u.FSN) != (freed+k)%128) || k == waits && u.Kind != api.Fill || b.c.Resends() != (k == 0) {
						b.fail("%v, %v behind the last one", u, b.c.Resends())
					}
					if u = b.next(); k > 0 && int(u.FSN) != (freed+waits)%128 || b.waits() != waits-k+min(k, 1) {
						b.fail("%v then", u)
					}
					b.end()
				}
			}
		}
	}
}

// P12.2: Answer with each BSN from 0 to 255, with none, some and Window that wait, and where the numbers go round.
func TestAnswer(t *testing.T) {
	for _, freed := range []int{0, 1, 64, 125, 127, 128} {
		for _, waits := range []int{0, 1, 5, 126, 127} {
			for bsn := range 256 {
				b := filled(t, 127, much, freed, waits, 1)
				k, e := b.answer(api.Unit{BSN: uint8(bsn)})
				want := (bsn - freed%128 + 1 + 128) % 128
				if bsn > 127 || want > waits {
					want = 0
				}
				if k != want || e != api.OK || b.c.Hold().Sent() != waits-want || b.c.Resends() {
					b.fail("%d, %d, want %d", k, e, want)
				}
				if bsn%16 == 0 {
					b.end()
				}
			}
		}
	}
}

// P12.2: BSNs that the Hold knows, or doesn't, in each order.
func TestAnswerOdd(t *testing.T) {
	for size := range 9 {
		for bits := range 1 << size {
			b := filled(t, much, much, 126, 20, 0)
			var all []bool
			for i := range size {
				odd := bits>>i&1 == 1
				all = append(all, odd)
				u := b.bsn(i % 3)
				if odd {
					u = b.unknown()
					u.BSN += uint8(i)
				}
				k, e := b.answer(u)
				if (e == api.ErrRange) != again(all) || e != api.OK && e != api.ErrRange || odd && k != 0 || !odd && k != i%3 {
					b.fail("%v: %d, %d", all, k, e)
				}
			}
		}
	}
}

// P12.2: a BSN that the Hold doesn't know once; twice in a row; with one and with two that are known between.
func TestAnswerOddEdges(t *testing.T) {
	for between, want := range []api.Errno{api.ErrRange, api.ErrRange, api.OK, api.OK} {
		for _, bad := range []uint8{0, 50, 126, 128, 255} {
			for _, bib := range []bool{false, true} {
				b := newBoth(t, 2, 100)
				odd := api.Unit{BSN: bad, BIB: bib}
				if k, e := b.answer(odd); k != 0 || e != api.OK {
					b.fail("once: %d, %d", k, e)
				}
				for range between {
					if k, e := b.answer(b.bsn(0)); k != 0 || e != api.OK {
						b.fail("%d, %d", k, e)
					}
				}
				if k, e := b.answer(odd); k != 0 || e != want {
					b.fail("%d between: %d, %d, want %d", between, k, e, want)
				}
				b.end()
			}
		}
	}
}

// P12.2: units that are given to Take alone aren't ahead of those that are given to Answer; and no unit that isn't right makes Take fail.
func TestOddApart(t *testing.T) {
	b := newBoth(t, 2, 100)
	b.answer(b.unknown())
	for i := range 9 {
		b.take(b.fsn(1 + i%3))
	}
	if _, e := b.answer(b.unknown()); e != api.ErrRange {
		b.fail("%d", e)
	}
	for range 9 {
		u := b.fsn(2)
		u.BSN = 200
		b.take(u)
	}
	b.end()
}

// P12.2: a place ahead of, at and behind what is answered, behind the last one, and all of it answered.
func TestAnswerPlace(t *testing.T) {
	for _, freed := range []int{0, 124, 127} {
		for _, waits := range []int{1, 2, 6} {
			for place := range waits + 1 {
				for k := range waits + 1 {
					b := resent(t, freed, waits, place)
					if gone, e := b.answer(b.bsn(k)); gone != k || e != api.OK {
						b.fail("%d, %d", gone, e)
					}
					want := max(place, k)
					if place == waits {
						want = k
					}
					if u := b.next(); k < waits && (u.Kind != api.Signal || int(u.FSN) != (freed+want)%128) || k == waits && u.Kind != api.Fill {
						b.fail("%v, want %d", u, (freed+want)%128)
					}
					b.end()
				}
			}
		}
	}
}

// P12.2: the same while it is forced, which an answer doesn't change; and a place that is moved on by several answers.
func TestAnswerPlaceForced(t *testing.T) {
	for place := 1; place <= 6; place++ {
		for first := range 7 {
			for second := range 7 - first {
				b := forced(t, 125, 6, place)
				b.answer(b.bsn(first))
				b.answer(b.bsn(second))
				if !b.c.Resends() {
					b.fail("Resends")
				}
				for range 8 {
					b.next()
				}
				b.end()
			}
		}
	}
}

// P12.2: the place behind the last one, of which some wait no more, is that of the next one that is sent.
func TestAnswerPlaceBehind(t *testing.T) {
	for k := range 5 {
		b := resent(t, 126, 4, 4)
		b.answer(b.bsn(k))
		b.put(3, 3)
		for i, want := range []int{130, 131, 130, 131, 126 + k} {
			if u := b.next(); int(u.FSN) != want%128 {
				b.fail("%d: %v, want %d", i, u, want%128)
			}
		}
		b.end()
	}
}

// P12.2: a BIB of either value changes nothing, with and without some that wait, with each place, while it is forced.
func TestAnswerBIB(t *testing.T) {
	for _, make := range []func() *both{
		func() *both { return newBoth(t, 2, 100) },
		func() *both { return filled(t, 6, much, 126, 5, 1) },
		func() *both { return resent(t, 126, 5, 3) },
		func() *both { return resent(t, 126, 5, 5) },
		func() *both { return forced(t, 126, 5, 3) },
	} {
		for k := range make().waits() + 1 {
			b, other := make(), make()
			for _, bib := range []bool{true, false, false, true, true} {
				u := b.bsn(min(k, b.waits()))
				b.answer(u)
				u.BIB = bib
				other.answer(u)
				for range 3 {
					if got, want := other.next(), b.next(); !same(got, want) || other.c.Resends() != b.c.Resends() {
						other.fail("%v, want %v", got, want)
					}
				}
			}
			other.end()
		}
	}
}

// P12.2: each kind of unit with each FSN from 0 to 255, with each number taken that is an edge, with either FIB and BIB.
func TestTake(t *testing.T) {
	for _, n := range []int{0, 1, 2, 64, 127, 128, 129} {
		for _, kind := range []byte{api.Fill, api.Link, api.Signal, 3, 255} {
			for fsn := range 256 {
				b := newBoth(t, 2, 100)
				for range n {
					b.take(b.fsn(1))
				}
				b.did = fmt.Sprintf("%d taken", n)
				p, ok := b.take(api.Unit{BSN: 99, BIB: fsn%4 < 2, FSN: uint8(fsn), FIB: fsn%2 == 0, Kind: kind, Status: 1, Wide: true, Info: []byte("what it says")})
				is := kind == api.Signal && fsn == n%128
				if ok != is || (p == "what it says") != is || !is && p != "" {
					b.fail("%s, %v", p, ok)
				}
				want := (n + 127) % 128
				if is {
					want = fsn
				}
				if got := b.c.Taken(); int(got) != want {
					b.fail("Taken: %d, want %d", got, want)
				}
				if fsn%64 == 0 {
					b.end()
				}
			}
		}
	}
}

// P12.2: a FIB of either value changes nothing: the next one is taken, others aren't, in each order.
func TestTakeFIB(t *testing.T) {
	for bits := range 1 << 8 {
		b := newBoth(t, 2, 100)
		taken := 0
		for i, behind := range []int{1, 1, 0, 2, 1, 1, 127, 1} {
			u := b.fsn(behind)
			u.FIB = bits>>i&1 == 1
			if _, ok := b.take(u); ok != (behind == 1) {
				b.fail("%v", ok)
			}
			if behind == 1 {
				taken++
			}
		}
		if int(b.c.Taken()) != taken-1 {
			b.fail("Taken: %d", b.c.Taken())
		}
	}
}

// P12.2: one that is Taken, however often it comes, and others, ahead of the one that is taken.
func TestTakeOthers(t *testing.T) {
	for _, n := range []int{1, 127, 128} {
		for _, behind := range []int{0, -1, 2, 3, 64, 126} {
			b := newBoth(t, 2, 100)
			for range n {
				b.take(b.fsn(1))
			}
			for range 5 {
				if _, ok := b.take(b.fsn(behind)); ok || int(b.c.Taken()) != n-1 {
					b.fail("%v, %d", ok, b.c.Taken())
				}
			}
			if _, ok := b.take(b.fsn(1)); !ok || int(b.c.Taken()) != n%128 {
				b.fail("%v, %d", ok, b.c.Taken())
			}
			b.end()
		}
	}
}

// P12.2: FSNs go round from 127 to 0, more than once; a Signal without octets is taken too.
func TestTakeRound(t *testing.T) {
	b := newBoth(t, 2, 100)
	for i := range 400 {
		u := api.Unit{FSN: uint8(i % 128), FIB: i%3 == 0, Kind: api.Signal, Info: []byte(text(i, 3+i%5))}
		if i%7 == 0 {
			u.Info = [][]byte{nil, {}}[i%2]
		}
		if p, ok := b.take(u); p != string(u.Info) || !ok || int(b.c.Taken()) != i%128 {
			b.fail("%d: %x, %v", i, p, ok)
		}
		b.did = ""
	}
	b.end()
}

// P12.2: Reset, of what each call may have brought about: as New, and the bounds stay.
func TestReset(t *testing.T) {
	ways := []func(b *both){
		func(b *both) {},
		func(b *both) { b.put(threes(5)...) },
		func(b *both) { b.next() },
		func(b *both) { b.next(); b.next(); b.next() },
		func(b *both) { b.answer(b.bsn(min(2, b.waits()))) },
		func(b *both) { b.answer(b.unknown()) },
		func(b *both) { b.answer(b.unknown()); b.answer(b.bsn(0)) },
		func(b *both) { b.answer(b.unknown()); b.answer(b.unknown()) },
		func(b *both) { b.take(b.fsn(1)) },
		func(b *both) { b.take(b.fsn(2)) },
	}
	for i := range ways {
		for j := range ways {
			for _, waits := range []int{0, 3, 127} {
				for _, next := range []int{0, 4} {
					b := filled(t, max(waits, 1), 400, 5, waits, next)
					ways[i](b)
					ways[j](b)
					h := b.c.Hold()
					b.reset()
					if b.c.Hold() != h || b.c.Taken() != 127 || b.c.Resends() || h.Octets() != 0 || h.First() != 0 {
						b.fail("%d, %v, %d, %d", b.c.Taken(), b.c.Resends(), h.Octets(), h.First())
					}
					if u := b.c.Next(); !same(u, api.Unit{BSN: 127, BIB: true, FSN: 127, FIB: true}) {
						b.fail("%v", u)
					}
					b.put(3, 3, 3)
					ways[j](b)
					b.end()
				}
			}
		}
	}
}

// P12.2: Reset with a place, while it is forced, behind odd units: the first one is sent, and sent again, and no unit ahead counts.
func TestResetScripts(t *testing.T) {
	plays(t, []play{
		{9, 100, "+ + + 0 1 2 0 1 r - + + + 0 1 2 0 1 2"},
		{9, 100, "+ + + 0 1 2 0 1 2 r + 0 0 + 1 1 0"},
		{2, 100, "+ + + 0 1 0 ! r . - . + + + 0 1 . 0 !"},
		{2, 100, "+ + + 0 1 0 ! r . + . 0 . 0 ."},
		{9, 8, "+ + + 0 1 0 ! r + + + 0 1 . 0 !"},
		{9, 100, "? r ? r ? r + 0 ? r ? a127 a127 ?"},
		{9, 100, "+ + 0 1 a0 1 r r + 0 a0"},
	})
}

// P12.2, P1: each call of a nil Cyclic.
func TestNil(t *testing.T) {
	var c *cyclic.Cyclic
	for range 2 {
		if h := c.Hold(); h != nil {
			t.Error("Hold", h)
		}
		if n := c.Taken(); n != 127 {
			t.Error("Taken", n)
		}
		if u := c.Fill(); !same(u, api.Unit{}) {
			t.Error("Fill", u)
		}
		if u := c.Next(); !same(u, api.Unit{}) {
			t.Error("Next", u)
		}
		for _, kind := range []byte{api.Fill, api.Link, api.Signal, 9} {
			for n := range 256 {
				u := api.Unit{BSN: uint8(n), FSN: uint8(n), FIB: n%2 == 0, BIB: n%3 == 0, Kind: kind, Info: []byte("abc")}
				if k, e := c.Answer(u); k != 0 || e != api.ErrNone {
					t.Error("Answer", k, e)
				}
				if p, ok, e := c.Take(u); len(p) != 0 || ok || e != api.ErrNone {
					t.Error("Take", p, ok, e)
				}
			}
		}
		if c.Resends() {
			t.Error("Resends")
		}
		c.Reset()
	}
}

// P1: a Cyclic that New hasn't made ends all its calls too.
func TestZero(t *testing.T) {
	for _, c := range []*cyclic.Cyclic{{}, {H: hold.New(9, 100)}, {H: &hold.Hold{}}} {
		for range 2 {
			c.Hold().Put([]byte("abc"))
			c.Hold().Put([]byte("abc"))
			c.Taken()
			c.Fill()
			c.Next()
			for n := range 256 {
				for _, set := range []bool{false, true} {
					u := api.Unit{BSN: uint8(n), FSN: uint8(n), FIB: set, BIB: set, Kind: byte(n % 4)}
					c.Answer(u)
					c.Take(u)
					c.Resends()
					c.Next()
				}
			}
			c.Reset()
		}
	}
}

// waitsIn: does a unit's message wait, with its number?
func waitsIn(h *hold.Hold, u api.Unit) bool {
	for i := range h.Sent() {
		if n, p, _ := h.At(i); n == u.FSN && bytes.Equal(p, u.Info) {
			return true
		}
	}
	return false
}

// P1: the Hold may be asked by others too, whatever they do to it; a message that is gone isn't sent again.
func TestHoldOfOthers(t *testing.T) {
	ways := []func(h *hold.Hold){
		func(h *hold.Hold) { h.Clear() },
		func(h *hold.Hold) { h.Free(h.Last()) },
		func(h *hold.Hold) { h.Free(h.First()) },
		func(h *hold.Hold) { h.Send() },
		func(h *hold.Hold) { h.Flush() },
	}
	for i, do := range ways {
		for place := 1; place <= 5; place++ {
			c := forced(t, 3, 5, place).c
			do(c.Hold())
			for range 9 {
				h := c.Hold()
				u := c.Next()
				if u.Kind == api.Signal && !waitsIn(h, u) {
					t.Errorf("way %d, place %d: %v", i, place, u)
				}
				c.Resends()
				c.Answer(c.Fill())
				c.Answer(api.Unit{BSN: h.First()})
			}
			c.Reset()
		}
	}
}

// The rule of errors: an Answer that is an error changes nothing that any call tells but of the odd units.
func TestErrorsChangeNothing(t *testing.T) {
	for _, make := range []func() *both{
		func() *both { return newBoth(t, 2, 100) },
		func() *both { return filled(t, 6, much, 126, 5, 2) },
		func() *both { return filled(t, 127, much, 3, 127, 2) },
		func() *both { return resent(t, 126, 5, 3) },
		func() *both { return resent(t, 126, 5, 5) },
		func() *both { return forced(t, 126, 5, 1) },
		func() *both { return forced(t, 3, 127, 126) },
	} {
		b, calm := make(), make()
		fill, resends := b.c.Fill(), b.c.Resends()
		b.answer(b.unknown())
		for i := range 6 {
			u := b.unknown()
			u.BIB, u.FIB, u.Kind, u.Info = i%2 == 0, i%4 < 2, byte(i%3), []byte("abc")
			if k, e := b.answer(u); k != 0 || e != api.ErrRange {
				b.fail("%d, %d", k, e)
			}
			if !same(b.c.Fill(), fill) || b.c.Resends() != resends {
				b.fail("%v, %v", b.c.Fill(), b.c.Resends())
			}
		}
		b.rest()
		// Behind two units that are right the odd ones are forgotten: then it does as one that never got them.
		for _, x := range []*both{b, calm} {
			x.answer(x.bsn(0))
			x.answer(x.bsn(0))
		}
		for range 2*calm.waits() + 4 {
			if got, want := b.next(), calm.next(); !same(got, want) || b.c.Resends() != calm.c.Resends() {
				b.fail("%v, want %v", got, want)
			}
		}
		b.end()
	}
}

// The rule of memory: what Take and Next answered stays as it is, whatever is asked then, and may be appended to; and a message that is sent again is what was put, whatever became of an earlier answer.
func TestAnswersStay(t *testing.T) {
	c := cyclic.New(100, 1000, 4, 100)
	for i := range 9 {
		c.Hold().Put([]byte(text(i, 3+i)))
	}
	var sent []api.Unit
	for range 9 {
		sent = append(sent, c.Next())
	}
	in := []byte("what is handed in")
	array := string(in)
	var took [][]byte
	for i := range 3 {
		p, ok, e := c.Take(api.Unit{FSN: uint8(i), Kind: api.Signal, Info: in[i : i+5]})
		if !ok || e != api.OK || string(p) != array[i:i+5] {
			t.Fatalf("%s, %v, %d", p, ok, e)
		}
		took = append(took, p)
	}
	was := fmt.Sprint(sent, took)
	for _, p := range took {
		_ = append(p, "appended"...)
	}
	for _, u := range sent {
		_ = append(u.Info, "appended"...)
	}
	if string(in) != array {
		t.Fatalf("what was handed in is %s now", in)
	}
	scribble(in)
	c.Answer(api.Unit{BSN: 2})
	for range 9 {
		c.Next()
	}
	c.Reset()
	c.Hold().Put(bytes.Repeat([]byte("x"), 20))
	c.Next()
	if now := fmt.Sprint(sent, took); now != was {
		t.Errorf("%s, was %s", now, was)
	}
}

// chance is a unit that is chosen by chance, most often one that isn't odd.
func (b *both) chance(r *rand.Rand) api.Unit {
	u := b.fsn(1)
	u.BSN = b.bsn(r.Intn(b.waits() + 1)).BSN
	u.BIB, u.FIB = r.Intn(2) == 0, r.Intn(2) == 0
	if r.Intn(3) == 0 {
		u.BSN = b.bsn(0).BSN
	}
	if r.Intn(12) == 0 {
		u.BSN = uint8(r.Intn(256))
	}
	if r.Intn(4) == 0 {
		u.FSN = uint8(b.m.taken)
	}
	if r.Intn(12) == 0 {
		u.FSN = uint8(r.Intn(256))
	}
	if r.Intn(4) == 0 {
		u.Kind = byte(r.Intn(4))
	}
	return u
}

// step does one call, chosen by chance, and holds what it answers against the model.
func (b *both) step(r *rand.Rand) {
	b.did = "by chance"
	switch r.Intn(24) {
	case 0, 1, 2, 3, 4:
		b.put(3 + r.Intn(6))
	case 5, 6, 7:
		b.answer(b.chance(r))
	case 8, 9, 10:
		b.take(b.chance(r))
	case 11:
		switch r.Intn(60) {
		case 0:
			b.reset()
		case 1, 2, 3:
			b.flush()
		case 4:
			b.put(threes(130)...)
		case 5, 6, 7:
			b.put(273)
		case 8, 9:
			for range 140 {
				b.next()
			}
		default:
			b.answer(b.bsn(b.waits()))
		}
	default:
		b.next()
	}
}

// P12.1, P12.2, P2: long sequences of calls, chosen by chance, two Cyclics side by side.
func TestPlay(t *testing.T) {
	bounds := [][2]int{{1, 100}, {2, 100}, {4, 20}, {8, 300}, {127, 60}, {127, much}, {300, much}, {much, 1}, {30, 280}}
	free, must := 0, 0
	for seed := range 45 {
		r := rand.New(rand.NewSource(int64(seed)))
		x, y := bounds[seed%len(bounds)], bounds[r.Intn(len(bounds))]
		a, other := newBoth(t, x[0], x[1]), newBoth(t, y[0], y[1])
		for i := range 3000 {
			a.step(r)
			other.step(r)
			if a.c.Resends() {
				must++
			} else {
				free++
			}
			if i%500 == 0 {
				a.rest()
				other.rest()
			}
		}
		a.end()
		other.end()
	}
	if free < 10000 || must < 10000 {
		t.Errorf("%d times free, %d times forced: little is tested", free, must)
	}
}

// line is units that are under way.
type line struct {
	units []api.Unit
	delay int
}

// sides are two Cyclics joined by two lines; what each was given, and what the other one took of that.
type sides struct {
	t           *testing.T
	r           *rand.Rand
	n1, n2      int
	c           [2]*cyclic.Cyclic
	l           [2]line // to each side
	given, came [2][]string
	lost        int
}

func newSides(t *testing.T, r *rand.Rand, most, n1, n2, delay int) *sides {
	s := &sides{t: t, r: r, n1: n1, n2: n2, l: [2]line{{delay: delay}, {delay: r.Intn(delay + 1)}}}
	for side := range 2 {
		s.c[side] = cyclic.New(most, 1<<20, n1, n2)
	}
	return s
}

func (s *sides) put(side, n int) {
	for range n {
		size := 3 + s.r.Intn(5)
		if s.r.Intn(20) == 0 {
			size = 3 + s.r.Intn(271)
		}
		p := text(len(s.given[side])*2+side, size)
		if s.c[side].Hold().Put([]byte(p)) == api.OK {
			s.given[side] = append(s.given[side], p)
		}
	}
}

// send: a side's next unit is under way, or it is lost; and no more waits than may.
func (s *sides) send(side int, lost bool) {
	u := s.c[side].Next()
	if u.BSN > 127 || u.FSN > 127 || u.Kind != api.Fill && u.Kind != api.Signal {
		s.t.Fatalf("side %d sends %v", side, u)
	}
	h := s.c[side].Hold()
	if h.Sent() > min(s.n1, 127) || h.Sent() > 1 && h.Waiting() > s.n2 {
		s.t.Fatalf("side %d: %d wait, of %d octets", side, h.Sent(), h.Waiting())
	}
	if lost {
		s.lost++
		return
	}
	l := &s.l[1-side]
	l.units = append(l.units, u)
}

// hear: a side gets the unit that has been under way for long enough.
func (s *sides) hear(side int) {
	l := &s.l[side]
	if len(l.units) <= l.delay {
		return
	}
	u := l.units[0]
	l.units = l.units[1:]
	if _, e := s.c[side].Answer(u); e != api.OK {
		s.t.Fatalf("side %d, Answer of %v: %d", side, u, e)
	}
	p, ok, e := s.c[side].Take(u)
	if e != api.OK || !ok && len(p) != 0 {
		s.t.Fatalf("side %d, Take of %v: %x, %v, %d", side, u, p, ok, e)
	}
	if !ok {
		return
	}
	given := s.given[1-side]
	if n := len(s.came[side]); n >= len(given) || given[n] != string(p) {
		s.t.Fatalf("side %d took %x, its message %d", side, p, n)
	}
	s.came[side] = append(s.came[side], string(p))
}

// tick: each side sends a unit and gets one.
func (s *sides) tick(loss [2]float64) {
	for side := range 2 {
		s.send(side, s.r.Float64() < loss[side])
	}
	for side := range 2 {
		s.hear(side)
	}
}

// done: did all come, and does each side know it?
func (s *sides) done() bool {
	for side := range 2 {
		h := s.c[side].Hold()
		if h.Sent() != 0 || h.Next() != 0 || s.c[side].Resends() || len(s.came[side]) != len(s.given[1-side]) {
			return false
		}
	}
	return true
}

// finish: no more is lost: all comes, in time, and then nothing more.
func (s *sides) finish() {
	way := s.l[0].delay + s.l[1].delay
	// The slowest way is one message at a time: each waits till it was answered, and then a Fill is sent.
	most := (len(s.given[0])+len(s.given[1])+1)*(way+8) + 1000
	for n := 0; !s.done(); n++ {
		if n == most {
			s.t.Fatalf("not all came: %d of %d, %d of %d", len(s.came[1]), len(s.given[0]), len(s.came[0]), len(s.given[1]))
		}
		s.tick([2]float64{})
	}
	for range 2*way + 20 {
		s.tick([2]float64{})
	}
	if !s.done() || !slices.Equal(s.came[0], s.given[1]) || !slices.Equal(s.came[1], s.given[0]) {
		s.t.Fatal("more came behind all")
	}
}

// bounds are n1 and n2 of two sides, by a number.
func bounds(i int) (int, int) {
	all := [][2]int{{1, 100}, {2, 300}, {8, 300}, {127, 1 << 20}, {127, 40}, {500, 1 << 20}, {20, 600}}
	return all[i%len(all)][0], all[i%len(all)][1]
}

// P12.1, P12.2: two Cyclics joined by lines that lose units, but alter none: what one takes is the beginning of what the other one was given, and at last all of it.
func TestLines(t *testing.T) {
	losses := [][2]float64{{0, 0}, {0.02, 0.02}, {0.3, 0.3}, {0.8, 0.8}, {0, 0.5}, {0.5, 0}, {0.95, 0.1}, {0.1, 0.95}}
	came, lost := 0, 0
	for seed := range 72 {
		r := rand.New(rand.NewSource(int64(seed)))
		n1, n2 := bounds(seed)
		s := newSides(t, r, []int{5, 200, 512}[seed%3], n1, n2, []int{0, 1, 3, 20, 150}[seed%5])
		for range 6000 {
			if r.Intn(2) == 0 {
				s.put(r.Intn(2), r.Intn(3))
			}
			s.tick(losses[seed%8])
		}
		came += len(s.came[0]) + len(s.came[1])
		lost += s.lost
		s.finish()
	}
	if came < 72*300 || lost < 72*1000 {
		t.Errorf("%d came, %d were lost: little is tested", came, lost)
	}
}

// P12.1, P12.2: the same, where whole stretches are lost, one way, the other way, or both; with the window full, and empty.
func TestLinesInStretches(t *testing.T) {
	for seed := range 40 {
		r := rand.New(rand.NewSource(int64(1000 + seed)))
		n1, n2 := bounds(seed)
		s := newSides(t, r, 512, n1, n2, []int{0, 2, 9, 130}[seed%4])
		for range 60 {
			loss := [2]float64{float64(r.Intn(2)), float64(r.Intn(2))}
			if r.Intn(2) == 0 {
				loss = [2]float64{}
			}
			s.put(0, r.Intn(200)*r.Intn(2))
			s.put(1, r.Intn(200)*r.Intn(2))
			for range r.Intn(300) {
				s.tick(loss)
			}
		}
		if s.lost == 0 {
			t.Error("nothing was lost")
		}
		s.finish()
	}
}

// P12.1, P12.2: the same, where the sides send and hear by turns that are chosen by chance.
func TestLinesUneven(t *testing.T) {
	for seed := range 40 {
		r := rand.New(rand.NewSource(int64(2000 + seed)))
		n1, n2 := bounds(seed)
		s := newSides(t, r, 300, n1, n2, 0)
		for range 12000 {
			side := r.Intn(2)
			switch r.Intn(5) {
			case 0:
				s.put(side, r.Intn(2))
			case 1, 2:
				s.send(side, r.Intn(4) == 0)
			default:
				s.hear(side)
			}
		}
		for range 12000 {
			s.hear(0)
			s.hear(1)
		}
		s.finish()
	}
}

// P2: of the same calls the same answers, whatever other Cyclics do.
func TestAgain(t *testing.T) {
	run := func(between func()) string {
		c := cyclic.New(40, 400, 3, 12)
		s := ""
		for i := range 600 {
			c.Hold().Put([]byte(text(i, 3+i%4)))
			between()
			s += fmt.Sprintln(c.Next(), c.Resends())
			between()
			u := api.Unit{BSN: uint8(i / 3), BIB: i%7 < 4, FSN: uint8(i / 2), FIB: i%11 < 8, Kind: byte(i % 3), Info: []byte(text(i, 3))}
			s += fmt.Sprintln(c.Answer(u))
			between()
			s += fmt.Sprintln(c.Take(u))
			s += fmt.Sprintln(c.Fill(), c.Taken(), c.Hold().Sent())
			if i%150 == 149 {
				c.Reset()
			}
		}
		return s
	}
	other := cyclic.New(500, 5000, 1, 3)
	alone := run(func() {})
	beside := run(func() {
		other.Hold().Put([]byte("others"))
		other.Take(other.Next())
		other.Answer(api.Unit{BSN: 77})
	})
	if alone != beside {
		t.Error("the same calls were answered otherwise")
	}
}

package hold_test

import (
	"bytes"
	"fmt"
	"math"
	"math/rand"
	"slices"
	"testing"

	"signalman/api"
	"signalman/hold"
)

// sent is a message that waits, with the number that it was given.
type sent struct {
	n int
	p string
}

// model is a Hold by the document's words: it keeps each message's number, and counts all anew each time.
type model struct {
	most, octets int
	ahead        int // the number ahead of the first one
	wait         []sent
	next         []string
}

func newModel(most, octets int) *model { return &model{most: most, octets: octets, ahead: 127} }

func (m *model) first() int { return (m.ahead + 1) % 128 }

func (m *model) last() int {
	known := m.known()
	return known[len(known)-1]
}

// known: the numbers that it knows, in order.
func (m *model) known() []int {
	l := []int{m.ahead}
	for _, x := range m.wait {
		l = append(l, x.n)
	}
	return l
}

func (m *model) waiting() int {
	n := 0
	for _, x := range m.wait {
		n += len(x.p)
	}
	return n
}

func (m *model) all() int {
	n := m.waiting()
	for _, p := range m.next {
		n += len(p)
	}
	return n
}

func (m *model) size() int {
	if len(m.next) == 0 {
		return 0
	}
	return len(m.next[0])
}

func (m *model) put(p string) api.Errno {
	if len(p) < 3 {
		return api.ErrShort
	}
	if len(p) > 273 {
		return api.ErrLong
	}
	if len(m.wait)+len(m.next) >= m.most || m.all()+len(p) > m.octets {
		return api.ErrFull
	}
	m.next = append(m.next, p)
	return api.OK
}

func (m *model) send() (int, string, api.Errno) {
	if len(m.next) == 0 {
		return 0, "", api.ErrNone
	}
	if len(m.wait) == 127 {
		return 0, "", api.ErrFull
	}
	x := sent{(m.last() + 1) % 128, m.next[0]}
	m.wait = append(m.wait, x)
	m.next = m.next[1:]
	return x.n, x.p, api.OK
}

func (m *model) at(i int) (int, string, api.Errno) {
	if i < 0 || i >= len(m.wait) {
		return 0, "", api.ErrNone
	}
	return m.wait[i].n, m.wait[i].p, api.OK
}

func (m *model) free(n int) (int, api.Errno) {
	k := slices.Index(m.known(), n)
	if k < 0 {
		return 0, api.ErrRange
	}
	m.wait = m.wait[k:]
	m.ahead = n
	return k, api.OK
}

func (m *model) rest(n int) ([]string, api.Errno) {
	k := slices.Index(m.known(), n)
	if k < 0 {
		return nil, api.ErrRange
	}
	var l []string
	for _, x := range m.wait[k:] {
		l = append(l, x.p)
	}
	return append(l, m.next...), api.OK
}

func (m *model) flush() int {
	n := len(m.next)
	m.next = nil
	return n
}

func (m *model) clear() { *m = *newModel(m.most, m.octets) }

// both is a Hold and its model, that are asked the same.
type both struct {
	t   *testing.T
	h   *hold.Hold
	m   *model
	did string
}

func newBoth(t *testing.T, most, octets int) *both {
	b := &both{t, hold.New(most, octets), newModel(most, octets), ""}
	b.step("New(%d, %d)", most, octets)
	return b
}

func (b *both) step(form string, args ...any) { b.did = fmt.Sprintf(form, args...) }

// same fails if two answers to one question aren't the same.
func (b *both) same(what string, got, want any) {
	b.t.Helper()
	if g, w := fmt.Sprint(got), fmt.Sprint(want); g != w {
		b.t.Fatalf("%s: %s: %.300s, want %.300s", b.did, what, g, w)
	}
}

// counts holds what is told without an argument against the model.
func (b *both) counts() {
	b.t.Helper()
	got := [7]int{b.h.Sent(), b.h.Next(), b.h.Size(), b.h.Octets(), b.h.Waiting(), int(b.h.First()), int(b.h.Last())}
	want := [7]int{len(b.m.wait), len(b.m.next), b.m.size(), b.m.all(), b.m.waiting(), b.m.first(), b.m.last()}
	if got != want {
		b.t.Fatalf("%s: Sent, Next, Size, Octets, Waiting, First, Last: %v, want %v", b.did, got, want)
	}
}

// at holds an At against the model, and writes over what it answered.
func (b *both) at(i int) {
	b.t.Helper()
	n, p, e := b.h.At(i)
	wn, wp, we := b.m.at(i)
	if int(n) != wn || string(p) != wp || e != we {
		b.t.Fatalf("%s: At(%d) = %d, %x, %d, want %d, %x, %d", b.did, i, n, p, e, wn, wp, we)
	}
	scribble(p)
}

// rest holds a Rest against the model, and writes over what it answered.
func (b *both) rest(n int) {
	b.t.Helper()
	l, e := b.h.Rest(uint8(n))
	wl, we := b.m.rest(n)
	if e != we || !slices.EqualFunc(l, wl, func(p []byte, w string) bool { return string(p) == w }) {
		b.t.Fatalf("%s: Rest(%d) = %.300x, %d, want %.300x, %d", b.did, n, l, e, wl, we)
	}
	scribbleAll(l)
}

// knows holds all Knows against the model.
func (b *both) knows() {
	b.t.Helper()
	var want [256]bool
	for _, n := range b.m.known() {
		want[n] = true
	}
	for n := range want {
		if got := b.h.Knows(uint8(n)); got != want[n] {
			b.t.Fatalf("%s: Knows(%d) = %v, want %v", b.did, n, got, want[n])
		}
	}
}

// places are those of At that are asked: all, and the edges.
func (b *both) places() []int {
	l := []int{math.MinInt, math.MinInt + 1, -1 << 32, -128, -2, -1}
	for i := range len(b.m.wait) + 2 {
		l = append(l, i)
	}
	return append(l, 127, 128, 256, 1<<32, math.MaxInt-1, math.MaxInt)
}

// whole holds all that a Hold tells against the model, twice: nothing of it changes anything.
func (b *both) whole() {
	b.t.Helper()
	for range 2 {
		b.counts()
		b.knows()
		for _, i := range b.places() {
			b.at(i)
		}
		for n := range 256 {
			b.rest(n)
		}
	}
	b.counts()
}

func (b *both) put(p string) api.Errno {
	b.t.Helper()
	b.step("Put of %d", len(p))
	in := room(p)
	got, want := b.h.Put(in), b.m.put(p)
	b.same("error", got, want)
	if string(in) != p {
		b.t.Fatalf("%s: what was handed in is %x, was %x", b.did, in, p)
	}
	scribble(in)
	b.counts()
	return got
}

func (b *both) send() api.Errno {
	b.t.Helper()
	b.step("Send")
	n, p, e := b.h.Send()
	wn, wp, we := b.m.send()
	if int(n) != wn || string(p) != wp || e != we {
		b.t.Fatalf("Send = %d, %x, %d, want %d, %x, %d", n, p, e, wn, wp, we)
	}
	scribble(p)
	b.counts()
	return e
}

func (b *both) free(n int) api.Errno {
	b.t.Helper()
	b.step("Free(%d)", n)
	k, e := b.h.Free(uint8(n))
	wk, we := b.m.free(n)
	b.same("answer", []any{k, int(e)}, []any{wk, int(we)})
	b.counts()
	return e
}

func (b *both) flush() int {
	b.t.Helper()
	b.step("Flush")
	k := b.h.Flush()
	b.same("answer", k, b.m.flush())
	b.counts()
	return k
}

func (b *both) clear() {
	b.t.Helper()
	b.step("Clear")
	b.h.Clear()
	b.m.clear()
	b.counts()
}

// room is a message with octets behind it in its array.
func room(p string) []byte { return append(make([]byte, 0, len(p)+8), p...) }

// scribble writes over a message, and over what its array has room for.
func scribble(p []byte) {
	p = append(p, 0xee)
	p = p[:cap(p)]
	for i := range p {
		p[i] = 0xee
	}
}

// scribbleAll writes over messages, and over the list of them.
func scribbleAll(l [][]byte) {
	for _, p := range l {
		scribble(p)
	}
	l = append(l, []byte("appended"))
	l = l[:cap(l)]
	for i := range l {
		l[i] = []byte("written over")
	}
}

// text is a message of so many octets that is told from others by its key.
func text(key, size int) string {
	p := make([]byte, size)
	for i := range p {
		p[i] = byte(key >> (8 * (i % 3)))
	}
	return string(p)
}

// filled: so many messages were sent and freed, so many wait, so many weren't sent. The model is laid by hand, as it is made very often.
func filled(t *testing.T, freed, waits, next int) *both {
	t.Helper()
	b := newBoth(t, math.MaxInt, math.MaxInt)
	b.step("%d freed, %d wait, %d weren't sent", freed, waits, next)
	for i := range freed {
		b.h.Put([]byte("gone"))
		b.h.Send()
		b.h.Free(uint8(i % 128))
	}
	b.m.ahead = (freed + 127) % 128
	for i := range waits + next {
		p := text(1000+i, 3+i%11)
		b.h.Put([]byte(p))
		if i < waits {
			b.h.Send()
			b.m.wait = append(b.m.wait, sent{(freed + i) % 128, p})
		} else {
			b.m.next = append(b.m.next, p)
		}
	}
	b.counts()
	return b
}

func (b *both) must(e api.Errno) {
	b.t.Helper()
	if e != api.OK {
		b.t.Fatalf("%s: %d", b.did, e)
	}
}

func (b *both) fails(e, want api.Errno) {
	b.t.Helper()
	if e != want {
		b.t.Fatalf("%s: %d, want %d", b.did, e, want)
	}
	b.whole()
}

// fillings: how many wait, and weren't sent, in the tests of all numbers; where First stands, with the numbers going round behind it and not.
var (
	turns  = []int{0, 1, 60, 126, 127, 128, 300}
	waits  = []int{0, 1, 2, 5, 64, 126, 127}
	unsent = []int{0, 1, 4}
)

func eachFilled(t *testing.T, do func(freed, waits, next int)) {
	for _, f := range turns {
		for _, w := range waits {
			for _, n := range unsent {
				do(f, w, n)
			}
		}
	}
}

// The chapter's example: Put, Send = 0, Free(0) = 1.
func TestExample(t *testing.T) {
	h := hold.New(16, 600)
	if e := h.Put([]byte("abc")); e != api.OK {
		t.Fatalf("Put = %d", e)
	}
	if n, p, e := h.Send(); n != 0 || string(p) != "abc" || e != api.OK {
		t.Fatalf("Send = %d, %q, %d", n, p, e)
	}
	if k, e := h.Free(0); k != 1 || e != api.OK {
		t.Fatalf("Free(0) = %d, %d", k, e)
	}
	if h.First() != 1 || h.Last() != 0 || h.Sent() != 0 || h.Octets() != 0 {
		t.Errorf("First %d, Last %d, Sent %d, Octets %d", h.First(), h.Last(), h.Sent(), h.Octets())
	}
}

// P10.1, P10.3: what is told of some messages, in numbers that are written out.
func TestOrdinary(t *testing.T) {
	h := hold.New(8, 100)
	for _, p := range []string{"three", "messages", "and", "a fourth"} {
		if e := h.Put([]byte(p)); e != api.OK {
			t.Fatalf("Put(%q) = %d", p, e)
		}
	}
	if h.Sent() != 0 || h.Next() != 4 || h.Size() != 5 || h.Octets() != 24 || h.Waiting() != 0 || h.First() != 0 || h.Last() != 127 {
		t.Errorf("none sent: %d %d %d %d %d %d %d", h.Sent(), h.Next(), h.Size(), h.Octets(), h.Waiting(), h.First(), h.Last())
	}
	for i, want := range []string{"three", "messages"} {
		if n, p, e := h.Send(); int(n) != i || string(p) != want || e != api.OK {
			t.Errorf("Send = %d, %q, %d", n, p, e)
		}
	}
	if h.Sent() != 2 || h.Next() != 2 || h.Size() != 3 || h.Octets() != 24 || h.Waiting() != 13 || h.First() != 0 || h.Last() != 1 {
		t.Errorf("two sent: %d %d %d %d %d %d %d", h.Sent(), h.Next(), h.Size(), h.Octets(), h.Waiting(), h.First(), h.Last())
	}
	if n, p, e := h.At(1); n != 1 || string(p) != "messages" || e != api.OK {
		t.Errorf("At(1) = %d, %q, %d", n, p, e)
	}
	if l, e := h.Rest(0); e != api.OK || fmt.Sprintf("%s", l) != "[messages and a fourth]" {
		t.Errorf("Rest(0) = %s, %d", l, e)
	}
	if k, e := h.Free(0); k != 1 || e != api.OK {
		t.Errorf("Free(0) = %d, %d", k, e)
	}
	if h.Sent() != 1 || h.Next() != 2 || h.Size() != 3 || h.Octets() != 19 || h.Waiting() != 8 || h.First() != 1 || h.Last() != 1 {
		t.Errorf("one freed: %d %d %d %d %d %d %d", h.Sent(), h.Next(), h.Size(), h.Octets(), h.Waiting(), h.First(), h.Last())
	}
	if k := h.Flush(); k != 2 || h.Octets() != 8 || h.Size() != 0 || h.Next() != 0 || h.Sent() != 1 {
		t.Errorf("Flush = %d; %d %d %d %d", k, h.Octets(), h.Size(), h.Next(), h.Sent())
	}
}

// P10.1: New at its edges: nothing; what has room then.
func TestNew(t *testing.T) {
	for _, most := range []int{math.MinInt, -1, 0, 1, 2, math.MaxInt} {
		for _, octets := range []int{math.MinInt, -1, 0, 1, 2, 3, 4, 6, math.MaxInt} {
			b := newBoth(t, most, octets)
			if b.h == nil {
				t.Fatalf("%s is nil", b.did)
			}
			b.whole()
			b.same("First, Last", []int{int(b.h.First()), int(b.h.Last())}, []int{0, 127})
			for range 3 {
				want := api.OK
				if had := b.h.Next(); had >= most || octets < 3*(had+1) {
					want = api.ErrFull
				}
				b.same("Put", b.put("abc"), want)
				b.whole()
			}
			b.same("Put", b.put("ab"), api.ErrShort)
			b.same("Put", b.put(text(1, 274)), api.ErrLong)
			b.whole()
		}
	}
}

// P10.1: what a message's size says, with room for it and without.
func TestPutSize(t *testing.T) {
	for _, x := range []struct {
		size        int
		free, tight api.Errno
	}{
		{0, api.ErrShort, api.ErrShort}, {1, api.ErrShort, api.ErrShort}, {2, api.ErrShort, api.ErrShort},
		{3, api.OK, api.ErrFull}, {4, api.OK, api.ErrFull}, {api.MaxInfo, api.OK, api.ErrFull}, {api.MaxInfo + 1, api.OK, api.ErrFull},
		{api.MaxInfo + 2, api.ErrLong, api.ErrLong}, {api.MaxUnit, api.ErrLong, api.ErrLong}, {1 << 16, api.ErrLong, api.ErrLong},
	} {
		b := newBoth(t, 10, 1000)
		b.same("Put", b.put(text(7, x.size)), x.free)
		b.whole()
		for _, b := range []*both{newBoth(t, 0, 1000), newBoth(t, 10, 0), newBoth(t, 0, 0), newBoth(t, -5, -5), full(t)} {
			b.fails(b.put(text(7, x.size)), x.tight)
		}
	}
	b := newBoth(t, 10, 1000)
	for _, p := range [][]byte{nil, {}} {
		if e := b.h.Put(p); e != api.ErrShort {
			t.Errorf("Put(%#v) = %d", p, e)
		}
		b.whole()
	}
	if e := full(t).h.Put(nil); e != api.ErrShort {
		t.Errorf("full: Put(nil) = %d", e)
	}
}

// full is a Hold without room for a message, with some that wait and some that weren't sent.
func full(t *testing.T) *both {
	b := newBoth(t, 4, 100)
	for i := range 4 {
		b.must(b.put(text(i, 5)))
	}
	b.must(b.send())
	b.must(b.send())
	return b
}

// P10.1: most messages less one, and most; those that wait and those that don't count alike.
func TestPutMost(t *testing.T) {
	for _, most := range []int{1, 2, 16, 126, 127, 128, 129, api.MaxHold} {
		for _, waits := range []int{0, 1, most / 2, most - 1, most} {
			b := newBoth(t, most, math.MaxInt)
			for i := range most - 1 {
				b.must(b.put(text(i, 3)))
			}
			for range min(waits, most-1) {
				b.send()
			}
			b.must(b.put("the last one"))
			b.fails(b.put("one more"), api.ErrFull)
			for range waits {
				b.send()
			}
			b.fails(b.put("one more"), api.ErrFull)
			if b.h.Sent() > 0 {
				b.must(b.free(int(b.h.First())))
				b.must(b.put("one more"))
			} else {
				b.flush()
				b.must(b.put("one more"))
			}
			b.whole()
		}
	}
}

// P10.1: octets that are just reached, and one more.
func TestPutOctets(t *testing.T) {
	for _, octets := range []int{3, 10, 273, 274, 600, 1000} {
		for over := -1; over <= 1; over++ {
			for waits := range 3 {
				b := newBoth(t, 1000, octets)
				for octets-b.h.Octets() > 200 {
					b.must(b.put(text(b.h.Octets(), 100)))
				}
				for range waits {
					b.send()
				}
				size := octets - b.h.Octets() + over
				want := api.OK
				if over > 0 {
					want = api.ErrFull
				}
				if size < 3 {
					want = api.ErrShort
				}
				b.same("Put", b.put(text(1, size)), want)
				b.whole()
			}
		}
	}
	b := newBoth(t, 10, 9)
	b.must(b.put("abcde"))
	b.fails(b.put("fghij"), api.ErrFull)
	b.must(b.put("fghi"))
	b.fails(b.put("klm"), api.ErrFull)
	b.must(b.send())
	b.fails(b.put("klm"), api.ErrFull)
	b.must(b.free(0))
	b.fails(b.put("klmnop"), api.ErrFull)
	b.must(b.put("klmno"))
	b.whole()
}

// P10.1: the limits of a terminal, at them: MaxHold messages, MaxOctets octets.
func TestPutLimits(t *testing.T) {
	b := newBoth(t, math.MaxInt, api.MaxOctets)
	whole := api.MaxOctets / 273
	for i := range whole {
		if e := b.h.Put([]byte(text(i, 273))); e != api.OK {
			t.Fatalf("the message %d: %d", i, e)
		}
	}
	left := api.MaxOctets - 273*whole
	for _, x := range []struct {
		size int
		want api.Errno
	}{{left + 1, api.ErrFull}, {left, api.OK}, {3, api.ErrFull}} {
		if e := b.h.Put([]byte(text(1, x.size))); e != x.want {
			t.Errorf("%d octets where %d are left: %d, want %d", x.size, left, e, x.want)
		}
	}
	if b.h.Octets() != api.MaxOctets || b.h.Next() != whole+1 {
		t.Errorf("Octets %d, Next %d", b.h.Octets(), b.h.Next())
	}
}

// P10.1: Send with none left, and with Window - 1 and Window that wait.
func TestSend(t *testing.T) {
	for _, freed := range turns {
		b := filled(t, freed, 0, 0)
		b.fails(b.send(), api.ErrNone)
		b = filled(t, freed, api.Window-1, 0)
		b.fails(b.send(), api.ErrNone)
		b = filled(t, freed, api.Window-1, 2)
		b.must(b.send())
		b.whole()
		b.fails(b.send(), api.ErrFull)
		b.flush()
		b.fails(b.send(), api.ErrNone)
		b = filled(t, freed, api.Window, 0)
		b.fails(b.send(), api.ErrNone)
		b = filled(t, freed, api.Window, 1)
		b.fails(b.send(), api.ErrFull)
		b.must(b.free((freed + 2) % 128))
		b.must(b.send())
		b.fails(b.send(), api.ErrNone)
		for range 2 {
			b.must(b.put("more"))
			b.must(b.send())
		}
		b.must(b.put("more"))
		b.fails(b.send(), api.ErrFull)
	}
}

// P10.1: At of each place and of those that are none; P10.2, P10.3 of what a Hold may have.
func TestTells(t *testing.T) {
	eachFilled(t, func(freed, waits, next int) {
		filled(t, freed, waits, next).whole()
	})
}

// P10.1: the edges of At, one by one.
func TestAt(t *testing.T) {
	for _, w := range waits {
		h := filled(t, 100, w, 2).h
		for _, i := range []int{math.MinInt, -1 << 32, -1, w, w + 1, w + 128, 1 << 32, math.MaxInt} {
			if n, p, e := h.At(i); n != 0 || len(p) != 0 || e != api.ErrNone {
				t.Errorf("%d wait: At(%d) = %d, %x, %d", w, i, n, p, e)
			}
		}
		if w == 0 {
			continue
		}
		for _, i := range []int{0, w - 1} {
			if n, p, e := h.At(i); int(n) != (100+i)%128 || string(p) != text(1000+i, 3+i%11) || e != api.OK {
				t.Errorf("%d wait: At(%d) = %d, %x, %d", w, i, n, p, e)
			}
		}
	}
}

// P10.2: Knows of each number, by the words: from the one ahead of First up to Last.
func TestKnows(t *testing.T) {
	eachFilled(t, func(freed, waits, next int) {
		h := filled(t, freed, waits, next).h
		known := map[int]bool{}
		for i := range waits + 1 {
			known[(freed+127+i)%128] = true
		}
		for n := range 256 {
			if got := h.Knows(uint8(n)); got != known[n] {
				t.Errorf("%d freed, %d wait: Knows(%d) = %v", freed, waits, n, got)
			}
		}
	})
}

// P10.2: Free of each number, each of a Hold of its own.
func TestFree(t *testing.T) {
	eachFilled(t, func(freed, waits, next int) {
		b := filled(t, 0, 0, 0)
		for n := range 256 {
			if n == 0 || b.h.Sent() != waits || int(b.h.First()) != freed%128 {
				b = filled(t, freed, waits, next)
			}
			was := *b.m
			e := b.free(n)
			if known := slices.Contains(was.known(), n); known != (e == api.OK) {
				t.Fatalf("%d freed, %d wait: Free(%d): %d", freed, waits, n, e)
			}
			if e == api.OK && int(b.h.First()) != (n+1)%128 {
				t.Fatalf("%d freed, %d wait: Free(%d): First %d", freed, waits, n, b.h.First())
			}
			if e == api.OK && (int(b.h.Last()) != was.last() || b.h.Next() != next) {
				t.Fatalf("%d freed, %d wait: Free(%d): Last %d, Next %d", freed, waits, n, b.h.Last(), b.h.Next())
			}
		}
		b.whole()
	})
}

// P10.2: Free of the one ahead of First: none of them, and First stays; of Last: all; and then what isn't known any more.
func TestFreeEnds(t *testing.T) {
	eachFilled(t, func(freed, waits, next int) {
		b := filled(t, freed, waits, next)
		first, last := b.h.First(), b.h.Last()
		for range 3 {
			if k, e := b.h.Free((first + 127) % 128); k != 0 || e != api.OK || b.h.First() != first || b.h.Sent() != waits {
				t.Fatalf("%s: Free ahead of First = %d, %d; First %d", b.did, k, e, b.h.First())
			}
		}
		b.whole()
		if k, e := b.h.Free(last); k != waits || e != api.OK || b.h.First() != (last+1)%128 || b.h.Last() != last {
			t.Fatalf("%s: Free(Last) = %d, %d; First %d", b.did, k, e, b.h.First())
		}
		b.m.free(int(last))
		b.whole()
		for n := range 256 {
			if n != int(last) && b.free(n) != api.ErrRange {
				t.Fatalf("%s: of none that waits", b.did)
			}
		}
		b.whole()
	})
}

// P10.2: Rest of the one ahead of First, of Last, and with what wasn't sent.
func TestRest(t *testing.T) {
	eachFilled(t, func(freed, waits, next int) {
		h := filled(t, freed, waits, next).h
		for i := range waits + 1 {
			n := (freed + 127 + i) % 128
			l, e := h.Rest(uint8(n))
			if e != api.OK || len(l) != waits-i+next {
				t.Fatalf("%d freed, %d wait, %d don't: Rest(%d): %d, %d", freed, waits, next, n, len(l), e)
			}
			for j, p := range l {
				if string(p) != text(1000+i+j, 3+(i+j)%11) {
					t.Fatalf("%d freed, %d wait, %d don't: Rest(%d)[%d] = %x", freed, waits, next, n, j, p)
				}
			}
		}
		for n := 128; n < 256; n++ {
			if l, e := h.Rest(uint8(n)); len(l) != 0 || e != api.ErrRange {
				t.Fatalf("Rest(%d) = %x, %d", n, l, e)
			}
		}
	})
}

// P10.2: First and Last with nothing that waits: at the beginning, and later.
func TestFirstLast(t *testing.T) {
	b := newBoth(t, 4, 100)
	if b.h.First() != 0 || b.h.Last() != 127 {
		t.Errorf("new: First %d, Last %d", b.h.First(), b.h.Last())
	}
	b.must(b.put("abc"))
	if b.h.First() != 0 || b.h.Last() != 127 {
		t.Errorf("not sent: First %d, Last %d", b.h.First(), b.h.Last())
	}
	b.must(b.send())
	if b.h.First() != 0 || b.h.Last() != 0 {
		t.Errorf("sent: First %d, Last %d", b.h.First(), b.h.Last())
	}
	b.must(b.free(0))
	if b.h.First() != 1 || b.h.Last() != 0 {
		t.Errorf("freed: First %d, Last %d", b.h.First(), b.h.Last())
	}
	for _, freed := range turns {
		h := filled(t, freed, 0, 1).h
		if int(h.First()) != freed%128 || int(h.Last()) != (freed+127)%128 {
			t.Errorf("%d freed: First %d, Last %d", freed, h.First(), h.Last())
		}
	}
}

// P10.2: Flush throws away what wasn't sent, and nothing else; the next one has the number that they would have had.
func TestFlush(t *testing.T) {
	eachFilled(t, func(freed, waits, next int) {
		b := filled(t, freed, waits, next)
		first, last, octets := b.h.First(), b.h.Last(), b.h.Waiting()
		if k := b.flush(); k != next {
			t.Fatalf("Flush = %d, want %d", k, next)
		}
		b.whole()
		if b.h.First() != first || b.h.Last() != last || b.h.Sent() != waits || b.h.Octets() != octets || b.h.Waiting() != octets {
			t.Fatalf("Flush has changed what waits")
		}
		if b.flush() != 0 {
			t.Fatal("Flush of nothing")
		}
		b.must(b.put("behind Flush"))
		if waits < api.Window {
			b.must(b.send())
			b.same("Last", b.h.Last(), (last+1)%128)
		}
		b.whole()
	})
}

// P10.2: behind Clear it is as New has made it, with the same room.
func TestClear(t *testing.T) {
	eachFilled(t, func(freed, waits, next int) {
		b := filled(t, freed, waits, next)
		for range 2 {
			b.clear()
			b.whole()
			b.same("First, Last, Sent, Next, Octets", []int{int(b.h.First()), int(b.h.Last()), b.h.Sent(), b.h.Next(), b.h.Octets()}, []int{0, 127, 0, 0, 0})
			b.fails(b.send(), api.ErrNone)
		}
		b.must(b.put("behind Clear"))
		b.must(b.send())
		b.same("Last", b.h.Last(), 0)
		b.whole()
	})
	b := full(t)
	b.fails(b.put("abc"), api.ErrFull)
	b.clear()
	for i := range 4 {
		b.must(b.put(text(i, 25)))
	}
	b.fails(b.put("abc"), api.ErrFull)
	b = newBoth(t, 40, 100)
	b.must(b.put(text(1, 98)))
	b.clear()
	b.must(b.put(text(1, 97)))
	b.fails(b.put("abcd"), api.ErrFull)
	b.must(b.put("abc"))
}

// P10.1, P10.2: numbers that go round many times, by steps of each size.
func TestRound(t *testing.T) {
	for _, step := range []int{1, 2, 3, 17, 126, 127} {
		b := newBoth(t, 512, 1<<20)
		for i := 0; i < 128*12; i += step {
			for j := range step {
				b.must(b.put(text(i+j, 3+j%5)))
				n, p, e := b.h.Send()
				if int(n) != (i+j)%128 || string(p) != text(i+j, 3+j%5) || e != api.OK {
					t.Fatalf("the message %d: %d, %x, %d", i+j, n, p, e)
				}
				b.m.send()
			}
			b.knows()
			b.must(b.free((i + step - 1) % 128))
			b.knows()
		}
		b.whole()
	}
}

// P10.1: with a window that stays full while it moves on, and many that weren't sent.
func TestLong(t *testing.T) {
	const many = 100000
	h := hold.New(math.MaxInt, math.MaxInt)
	for i := range many {
		if e := h.Put([]byte(text(i, 3))); e != api.OK {
			t.Fatalf("Put %d: %d", i, e)
		}
	}
	for i := range many {
		if i >= 127 {
			if _, _, e := h.Send(); e != api.ErrFull {
				t.Fatalf("Send with Window that wait: %d", e)
			}
			if k, e := h.Free(h.First()); k != 1 || e != api.OK {
				t.Fatalf("Free: %d, %d", k, e)
			}
		}
		if n, p, e := h.Send(); int(n) != i%128 || string(p) != text(i, 3) || e != api.OK {
			t.Fatalf("Send %d: %d, %x, %d", i, n, p, e)
		}
	}
	if h.Sent() != 127 || h.Next() != 0 || h.Octets() != 381 || h.Waiting() != 381 {
		t.Errorf("%d %d %d %d", h.Sent(), h.Next(), h.Octets(), h.Waiting())
	}
}

// P10.3, P1: each call of a nil Hold.
func TestNil(t *testing.T) {
	var h *hold.Hold
	for range 2 {
		for _, p := range [][]byte{nil, {}, []byte("ab"), []byte("abc"), make([]byte, 273), make([]byte, 274)} {
			if e := h.Put(p); e != api.ErrNone {
				t.Errorf("Put of %d: %d", len(p), e)
			}
		}
		if n, p, e := h.Send(); n != 0 || len(p) != 0 || e != api.ErrNone {
			t.Errorf("Send = %d, %x, %d", n, p, e)
		}
		for _, i := range []int{math.MinInt, -1, 0, 1, math.MaxInt} {
			if n, p, e := h.At(i); n != 0 || len(p) != 0 || e != api.ErrNone {
				t.Errorf("At(%d) = %d, %x, %d", i, n, p, e)
			}
		}
		for n := range 256 {
			if h.Knows(uint8(n)) {
				t.Errorf("Knows(%d)", n)
			}
			if k, e := h.Free(uint8(n)); k != 0 || e != api.ErrRange {
				t.Errorf("Free(%d) = %d, %d", n, k, e)
			}
			if l, e := h.Rest(uint8(n)); len(l) != 0 || e != api.ErrRange {
				t.Errorf("Rest(%d) = %x, %d", n, l, e)
			}
		}
		if k := h.Flush(); k != 0 {
			t.Errorf("Flush = %d", k)
		}
		h.Clear()
		if h.First() != 0 || h.Last() != 127 || h.Sent() != 0 || h.Next() != 0 || h.Size() != 0 || h.Octets() != 0 || h.Waiting() != 0 {
			t.Errorf("%d %d %d %d %d %d %d", h.First(), h.Last(), h.Sent(), h.Next(), h.Size(), h.Octets(), h.Waiting())
		}
	}
}

// P1: a Hold that New hasn't made ends all its calls too.
func TestZero(t *testing.T) {
	h := &hold.Hold{}
	h.Put([]byte("abc"))
	h.Send()
	h.At(0)
	for n := range 256 {
		h.Knows(uint8(n))
		h.Rest(uint8(n))
		h.Free(uint8(n))
	}
	h.Flush()
	h.Clear()
	h.First()
	h.Last()
	h.Size()
}

// The rule of errors: a call that answers one has no other result, and changes nothing that any call tells.
func TestErrorsChangeNothing(t *testing.T) {
	for _, b := range []*both{newBoth(t, 0, 0), newBoth(t, 4, 100), full(t), filled(t, 126, 127, 3), filled(t, 3, 0, 0)} {
		for _, p := range []string{"", "ab", text(1, 274)} {
			if b.put(p) == api.OK {
				t.Fatalf("Put of %d", len(p))
			}
			b.whole()
		}
		if b.h.Next() == 0 || b.h.Sent() == 127 {
			n, p, e := b.h.Send()
			if n != 0 || len(p) != 0 || e == api.OK {
				t.Fatalf("Send = %d, %x, %d", n, p, e)
			}
			b.whole()
		}
		for n := range 256 {
			if b.h.Knows(uint8(n)) {
				continue
			}
			if k, e := b.h.Free(uint8(n)); k != 0 || e != api.ErrRange {
				t.Fatalf("Free(%d) = %d, %d", n, k, e)
			}
			if l, e := b.h.Rest(uint8(n)); len(l) != 0 || e != api.ErrRange {
				t.Fatalf("Rest(%d) = %x, %d", n, l, e)
			}
		}
		b.whole()
		b.flush()
		b.put("and then")
		b.whole()
	}
}

// The rule of memory: what was handed to Put may be written over; messages that share an array, too.
func TestPutMemory(t *testing.T) {
	b := newBoth(t, 100, 1000)
	array := []byte("abcdefghijkl")
	for i := 0; i+6 <= len(array); i += 2 {
		p := array[i : i+6]
		b.same("Put", b.h.Put(p), b.m.put(string(p)))
		b.same("array", string(array), "abcdefghijkl")
	}
	scribble(array)
	b.whole()
	for range 2 {
		b.must(b.send())
	}
	b.whole()
	one := []byte("the same")
	for i := range 3 {
		one[0] = byte(i)
		b.same("Put", b.h.Put(one), b.m.put(string(one)))
	}
	b.whole()
}

// The rule of memory: what Send, At and Rest answered may be written over, and appended to.
func TestAnswersWrittenOver(t *testing.T) {
	b := newBoth(t, 100, 1000)
	for i := range 9 {
		b.must(b.put(text(300+i, 3+i)))
	}
	for range 5 {
		_, p, _ := b.h.Send()
		b.m.send()
		scribble(p)
		b.whole()
	}
	for range 3 {
		for i := range 5 {
			_, p, _ := b.h.At(i)
			scribble(p)
		}
		for _, n := range b.m.known() {
			l, _ := b.h.Rest(uint8(n))
			_ = append(l, []byte("appended"))
			for _, p := range l {
				_ = append(p, "appended"...)
			}
			b.whole()
			scribbleAll(l)
		}
		b.whole()
	}
	b.flush()
	for _, n := range b.m.known() {
		l, _ := b.h.Rest(uint8(n))
		_ = append(l, []byte("appended"))
		scribbleAll(l)
		b.must(b.put("behind"))
		b.whole()
	}
	for b.h.Next() > 0 {
		b.must(b.send())
		b.whole()
	}
}

// The rule of memory: an answer stays as it is, whatever is asked then; no two lists of one answer share memory.
func TestAnswersStay(t *testing.T) {
	b := newBoth(t, 100, 1000)
	for i := range 8 {
		b.must(b.put(text(300+i, 5)))
	}
	_, sent, _ := b.h.Send()
	b.m.send()
	for range 4 {
		b.must(b.send())
	}
	_, at, _ := b.h.At(1)
	rest, _ := b.h.Rest(127)
	again, _ := b.h.Rest(127)
	was := fmt.Sprintf("%x %x %x", sent, at, rest)
	scribbleAll(again)
	check := func() {
		t.Helper()
		if now := fmt.Sprintf("%x %x %x", sent, at, rest); now != was {
			t.Fatalf("%s: %s, was %s", b.did, now, was)
		}
	}
	check()
	b.must(b.send())
	check()
	b.must(b.free(2))
	check()
	for i := range 6 {
		b.must(b.put(text(400+i, 6)))
		b.must(b.send())
		check()
	}
	b.flush()
	check()
	b.clear()
	check()
	for i := range 12 {
		b.must(b.put(text(500+i, 7)))
		b.send()
		check()
	}
	for i, p := range rest {
		others := [][]byte{}
		for j, q := range rest {
			if j != i {
				others = append(others, bytes.Clone(q))
			}
		}
		scribble(p)
		if now := append(append([][]byte{}, rest[:i]...), rest[i+1:]...); !slices.EqualFunc(now, others, bytes.Equal) {
			t.Fatalf("one message of Rest has changed another one: %x, was %x", now, others)
		}
	}
}

// play does one call, chosen by chance, and holds what it answers against the model.
func (b *both) play(r *rand.Rand, key int) {
	switch r.Intn(14) {
	case 0, 1, 2, 3:
		size := 3 + r.Intn(20)
		if r.Intn(8) == 0 {
			size = []int{0, 1, 2, 3, 272, 273, 274, 300}[r.Intn(8)]
		}
		b.put(text(key, size))
	case 4, 5, 6, 7:
		b.send()
	case 8, 9:
		known := b.m.known()
		b.free(known[r.Intn(len(known))])
	case 10:
		b.free(r.Intn(256))
	case 11:
		b.at(r.Intn(130) - 1)
	case 12:
		b.rest(r.Intn(140))
	case 13:
		switch r.Intn(20) {
		case 0:
			b.flush()
		case 1:
			b.clear()
		default:
			b.send()
		}
	}
}

// P10.1 to P10.3, P2: long sequences of calls, chosen by chance, two Holds side by side.
func TestPlay(t *testing.T) {
	for seed := range 24 {
		r := rand.New(rand.NewSource(int64(seed)))
		room := [][2]int{{3, 100}, {16, 600}, {512, 1 << 20}, {math.MaxInt, math.MaxInt}, {200, 900}, {1, 273}}[seed%6]
		a := newBoth(t, room[0], room[1])
		other := newBoth(t, 300, 3000)
		for i := range 3000 {
			a.play(r, i)
			other.play(r, i+7)
			a.knows()
			if i%200 == 0 {
				a.whole()
				other.whole()
			}
		}
		a.whole()
		other.whole()
	}
}

// P10.1, P2: sequences that fill the window and empty it again, round the numbers.
func TestPlayFull(t *testing.T) {
	for seed := range 10 {
		r := rand.New(rand.NewSource(int64(100 + seed)))
		b := newBoth(t, 512, 1<<20)
		seen := map[api.Errno]int{}
		for i := range 6000 {
			seen[b.put(text(i, 3+r.Intn(4)))]++
			for range r.Intn(3) {
				seen[b.send()]++
			}
			if r.Intn(60) == 0 {
				known := b.m.known()
				b.free(known[r.Intn(len(known))])
			}
			if r.Intn(900) == 0 {
				b.flush()
			}
			if i%500 == 0 {
				b.whole()
			}
		}
		if seen[api.ErrFull] == 0 || seen[api.OK] == 0 {
			t.Errorf("the window was never full: %v", seen)
		}
	}
}

// P2: of the same calls the same answers, whatever other Holds do.
func TestAgain(t *testing.T) {
	run := func(between func()) string {
		h := hold.New(20, 200)
		s := ""
		for i := range 400 {
			s += fmt.Sprintln(h.Put([]byte(text(i, 3+i%9))))
			between()
			if i%3 != 0 {
				s += fmt.Sprintln(h.Send())
			}
			between()
			if i%5 == 0 {
				s += fmt.Sprintln(h.Free(uint8(i / 5 * 3)))
			}
			s += fmt.Sprintln(h.Rest(h.First()))
			s += fmt.Sprintln(h.First(), h.Last(), h.Sent(), h.Next(), h.Size(), h.Octets(), h.Waiting())
		}
		return s
	}
	other := hold.New(500, 5000)
	alone := run(func() {})
	beside := run(func() {
		other.Put([]byte("others"))
		other.Send()
		other.Free(other.Last())
	})
	if alone != beside {
		t.Error("the same calls were answered otherwise")
	}
}

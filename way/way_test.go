package way_test

import (
	"bytes"
	"fmt"
	"math"
	"math/rand"
	"slices"
	"strings"
	"testing"

	"signalman/api"
	"signalman/basic"
	"signalman/cyclic"
	"signalman/setup"
	"signalman/way"
)

// both is whether a way is cyclic, of either way.
var both = []bool{false, true}

// other is a Way that is neither basic nor cyclic, though it works as one of them.
type other struct{ way.Way }

// embedded is another Way that a Basic is a part of.
type embedded struct{ *basic.Basic }

// setUp is a setup with these numbers, and without timers.
func setUp(cyclic bool, hold, octets, n1, n2 int) api.Setup {
	return api.Setup{Cyclic: cyclic, Hold: hold, Octets: octets, N1: n1, N2: n2}
}

// same: are two units one? (nil and empty lists are the same.)
func same(a, b api.Unit) bool {
	return a.BSN == b.BSN && a.FSN == b.FSN && a.BIB == b.BIB && a.FIB == b.FIB && a.Kind == b.Kind && a.Status == b.Status && a.Wide == b.Wide && bytes.Equal(a.Info, b.Info)
}

// text is a message of so many octets (3 at least) that is told from others by its key.
func text(key, size int) []byte {
	return append([]byte{byte(key >> 16), byte(key >> 8), byte(key)}, bytes.Repeat([]byte{7}, size-3)...)
}

// tells is all that a way's calls tell without changing anything.
func tells(w way.Way) string {
	h := w.Hold()
	s := fmt.Sprint(w.Fill(), w.Taken(), w.Resends(), way.Name(w), h.First(), h.Last(), h.Sent(), h.Next(), h.Size(), h.Octets(), h.Waiting())
	for i := range h.Sent() {
		s += fmt.Sprint(h.At(i))
	}
	return s + fmt.Sprintln(h.Rest((h.First()+127)%128))
}

// chance is a unit that often is an answer, or the next message, and sometimes neither.
func chance(r *rand.Rand, w way.Way) api.Unit {
	h, fill := w.Hold(), w.Fill()
	u := api.Unit{BSN: (h.First() + 127 + uint8(r.Intn(h.Sent()+1))) % 128, BIB: fill.FIB, FSN: (w.Taken() + 1) % 128, FIB: fill.BIB, Kind: api.Signal, Info: text(r.Intn(1000), 3+r.Intn(9))}
	switch r.Intn(16) {
	case 0:
		u.BSN = uint8(r.Intn(256))
	case 1, 2:
		u.BIB = !u.BIB
	case 3:
		u.FIB = !u.FIB
	case 4, 5, 6:
		u.FSN = w.Taken()
	case 7:
		u.FSN = uint8(r.Intn(256))
	case 8:
		u.Kind = byte(r.Intn(4))
	}
	return u
}

// step does to a way something that chance chooses, and tells what was answered.
func step(r *rand.Rand, w way.Way) string {
	switch n := r.Intn(400); {
	case n < 120:
		return fmt.Sprintln("Put", w.Hold().Put(text(r.Intn(1<<24), 3+r.Intn(30))))
	case n < 270:
		return fmt.Sprintln("Next", w.Next())
	case n < 320:
		k, e := w.Answer(chance(r, w))
		return fmt.Sprintln("Answer", k, e)
	case n < 396:
		p, ok, e := w.Take(chance(r, w))
		return fmt.Sprintln("Take", p, ok, e)
	case n < 399:
		return fmt.Sprintln("Flush", w.Hold().Flush())
	}
	w.Reset()
	return "Reset\n"
}

// plays: two ways are told the same, as chance has it: do they answer the same?
func plays(t *testing.T, seed int, a, b way.Way) {
	t.Helper()
	ra, rb := rand.New(rand.NewSource(int64(seed))), rand.New(rand.NewSource(int64(seed)))
	for i := range 600 {
		if x, y := step(ra, a)+tells(a), step(rb, b)+tells(b); x != y {
			t.Fatalf("seed %d, step %d: %.300s, want %.300s", seed, i, x, y)
		}
	}
}

// The chapter's example.
func TestExample(t *testing.T) {
	if n := way.Name(way.New(setup.Usual(true))); n != "cyclic" {
		t.Error(n)
	}
}

// setups are some of either way, at the bounds and beyond them.
func setups() []api.Setup {
	var all []api.Setup
	for _, hold := range []int{math.MinInt, -1, 0, 1, 2, 16, 127, 128, 512, 513, math.MaxInt} {
		for _, octets := range []int{math.MinInt, -1, 0, 3, 272, 273, 600, 1 << 20, 1<<20 + 1, math.MaxInt} {
			for _, n := range [][2]int{{math.MinInt, math.MinInt}, {-1, -1}, {0, 0}, {1, 1}, {8, 300}, {127, 100}, {128, 1 << 20}, {math.MaxInt, math.MaxInt}} {
				for _, cyclic := range both {
					all = append(all, setUp(cyclic, hold, octets, n[0], n[1]))
				}
			}
		}
	}
	return append(all, setup.Usual(false), setup.Usual(true))
}

// P13.1: New: of a setup that is cyclic a cyclic.Cyclic, of another one a basic.Basic, whatever else it says; with nothing in it.
func TestNew(t *testing.T) {
	for _, s := range setups() {
		w := way.New(s)
		c, isCyclic := w.(*cyclic.Cyclic)
		b, isBasic := w.(*basic.Basic)
		if isCyclic != s.Cyclic || isBasic == s.Cyclic || c == nil && b == nil {
			t.Fatalf("%v: %T", s, w)
		}
		h := w.Hold()
		if h == nil || h.Sent() != 0 || h.Next() != 0 || h.First() != 0 || w.Taken() != 127 || w.Resends() {
			t.Errorf("%v: %s", s, tells(w))
		}
		if u := w.Next(); !same(u, api.Unit{BSN: 127, BIB: true, FSN: 127, FIB: true}) {
			t.Errorf("%v: %v", s, u)
		}
		if w == way.New(s) {
			t.Errorf("%v: twice the same way", s)
		}
	}
}

// P13.1: New: it works as one of its package's that was made with the setup's Hold, Octets, N1 and N2, each in its place.
func TestNewPlays(t *testing.T) {
	for seed := range 120 {
		r := rand.New(rand.NewSource(int64(seed)))
		hold, octets := 1+r.Intn([]int{6, 40, 512}[seed%3]), 273+r.Intn([]int{30, 900, 20000}[seed/3%3])
		n1, n2 := 1+r.Intn([]int{5, 127}[seed%2]), 1+r.Intn([]int{60, 3000}[seed/2%2])
		plays(t, seed, way.New(setUp(false, hold, octets, n1, n2)), basic.New(hold, octets))
		plays(t, seed, way.New(setUp(true, hold, octets, n1, n2)), cyclic.New(hold, octets, n1, n2))
	}
}

// P13.1: New: the timers don't touch a way.
func TestNewTimers(t *testing.T) {
	for _, cyclic := range both {
		s := setup.Usual(cyclic)
		z := s
		z.T = [8]int{}
		for seed := range 20 {
			plays(t, seed, way.New(s), way.New(z))
		}
	}
}

// put: each of these sizes is room for.
func put(t *testing.T, w way.Way, sizes ...int) {
	t.Helper()
	for i, size := range sizes {
		if e := w.Hold().Put(text(i, size)); e != api.OK {
			t.Fatalf("Put %d of %d octets: %d", i, size, e)
		}
	}
}

// P13.1: New: Hold messages are room for, and one more isn't, waiting or not; behind Reset too.
func TestNewHold(t *testing.T) {
	for _, hold := range []int{1, 2, 16, 127, 128, 511, 512} {
		for _, cyclic := range both {
			for sent := range 2 {
				w := way.New(setUp(cyclic, hold, 1<<20, 127, 1<<20))
				for range 2 {
					put(t, w, slices.Repeat([]int{3}, hold)...)
					for range sent * 5 {
						w.Next()
					}
					if e := w.Hold().Put(text(0, 3)); e != api.ErrFull {
						t.Errorf("%v, %d: one more: %d", cyclic, hold, e)
					}
					w.Reset()
				}
			}
		}
	}
}

// P13.1: New: Octets octets are room for, and one more isn't.
func TestNewOctets(t *testing.T) {
	for _, octets := range []int{3, 273, 274, 600, 5000} {
		for _, cyclic := range both {
			w := way.New(setUp(cyclic, 512, octets, 127, 1<<20))
			for range 2 {
				left := octets
				for left > 273+3 {
					put(t, w, 100)
					left -= 100
				}
				if left > 273 {
					put(t, w, 3)
					left -= 3
				}
				if e := w.Hold().Put(text(0, left+1)); left < 273 && e != api.ErrFull {
					t.Errorf("%v, %d: one octet more: %d", cyclic, octets, e)
				}
				put(t, w, left)
				if e := w.Hold().Put(text(0, 3)); e != api.ErrFull || w.Hold().Octets() != octets {
					t.Errorf("%v, %d: one message more: %d", cyclic, octets, e)
				}
				w.Reset()
			}
		}
	}
}

// waiting: how many wait at last, if nothing is answered.
func waiting(w way.Way) int {
	for range 600 {
		w.Next()
	}
	return w.Hold().Sent()
}

// P13.1: New: with the cyclic method N1 messages wait, and one more doesn't, but has those sent again; N1 doesn't touch the basic one.
func TestNewN1(t *testing.T) {
	for _, n1 := range []int{1, 2, 8, 126, 127} {
		for more := range 2 {
			w := way.New(setUp(true, 512, 1<<20, n1, 1<<20))
			put(t, w, slices.Repeat([]int{3}, n1+more)...)
			for i := range n1 {
				if u := w.Next(); u.Kind != api.Signal || int(u.FSN) != i || w.Resends() {
					t.Errorf("N1 %d, %d: %v", n1, i, u)
				}
			}
			if u := w.Next(); u.FSN != 0 || w.Resends() != (more == 1) {
				t.Errorf("N1 %d and %d more: %v, %v", n1, more, u, w.Resends())
			}
			if n := waiting(w); n != n1 {
				t.Errorf("N1 %d and %d more: %d wait", n1, more, n)
			}
		}
		w := way.New(setUp(false, 512, 1<<20, n1, 1))
		put(t, w, slices.Repeat([]int{3}, 200)...)
		if n := waiting(w); n != 127 {
			t.Errorf("basic, N1 %d: %d wait", n1, n)
		}
	}
}

// P13.1: New: with the cyclic method messages of N2 octets wait, and of one octet more don't, but alone; N2 doesn't touch the basic one.
func TestNewN2(t *testing.T) {
	for _, n2 := range []int{6, 7, 300, 540} {
		for more := range 2 {
			first := n2 / 2
			w := way.New(setUp(true, 512, 1<<20, 127, n2))
			put(t, w, first, n2-first+more)
			a, b := w.Next(), w.Next()
			if a.FSN != 0 || int(b.FSN) != 1-more || w.Resends() != (more == 1) {
				t.Errorf("N2 %d and %d more: %v, %v, %v", n2, more, a, b, w.Resends())
			}
			if n := waiting(w); n != 2-more {
				t.Errorf("N2 %d and %d more: %d wait", n2, more, n)
			}
		}
		w := way.New(setUp(false, 512, 1<<20, 1, n2))
		put(t, w, slices.Repeat([]int{273}, 200)...)
		if n := waiting(w); n != 127 {
			t.Errorf("basic, N2 %d: %d wait", n2, n)
		}
	}
}

// P13.1, P1: Cyclic and Name: of either way, by New or by its own package, at its beginning and later; of nil, and of a Way of a caller's.
func TestNames(t *testing.T) {
	b, c := way.New(setup.Usual(false)), way.New(setup.Usual(true))
	for range 2 {
		for _, x := range []struct {
			w      way.Way
			name   string
			cyclic bool
		}{
			{b, "basic", false}, {c, "cyclic", true}, {nil, "", false},
			{basic.New(1, 1), "basic", false}, {cyclic.New(1, 1, 1, 1), "cyclic", true},
			{(*basic.Basic)(nil), "basic", false}, {(*cyclic.Cyclic)(nil), "cyclic", true},
			{other{b}, "", false}, {other{c}, "", false}, {&other{c}, "", false}, {embedded{way.Basic(b)}, "", false},
		} {
			if way.Name(x.w) != x.name || way.Cyclic(x.w) != x.cyclic {
				t.Errorf("%T: %s, %v, want %s, %v", x.w, way.Name(x.w), way.Cyclic(x.w), x.name, x.cyclic)
			}
		}
		for _, w := range []way.Way{b, c} {
			put(t, w, 3, 4, 5)
			w.Next()
			w.Take(api.Unit{FSN: 0, FIB: true, Kind: api.Signal, Info: []byte("abc")})
		}
	}
}

// panics: does Basic?
func panics(w way.Way) (did bool) {
	defer func() { did = recover() != nil }()
	way.Basic(w)
	return
}

// P13.1, P1: Basic: the basic way that a way is, that one and no other; of another one, and of nil, it panics, and changes nothing.
func TestBasic(t *testing.T) {
	a, b := basic.New(3, 300), way.New(setup.Usual(false))
	for _, w := range []way.Way{a, b, basic.New(3, 300)} {
		x := way.Basic(w)
		if way.Way(x) != w || x.H != w.Hold() {
			t.Errorf("%p, want %p", x, w)
		}
		put(t, w, 3)
		if x.Hold().Next() != 1 || x.Next().Kind != api.Signal || w.Hold().Sent() != 1 {
			t.Error("it is another one")
		}
	}
	if way.Basic(a) != a {
		t.Errorf("%p, want %p", way.Basic(a), a)
	}
	c := way.New(setup.Usual(true))
	put(t, c, 3, 4)
	c.Next()
	was := tells(c)
	for _, w := range []way.Way{nil, c, cyclic.New(1, 1, 1, 1), (*cyclic.Cyclic)(nil), other{a}, other{c}, embedded{a}} {
		if !panics(w) {
			t.Errorf("%T: no panic", w)
		}
	}
	if tells(c) != was {
		t.Errorf("%s, want %s", tells(c), was)
	}
}

// statuses holds each status of a way against its Fill: all but Kind and Status is that one's, and nothing is changed.
func statuses(t *testing.T, w way.Way) {
	t.Helper()
	was := tells(w)
	for status := range 256 {
		want := w.Fill()
		want.Kind, want.Status = api.Link, byte(status)
		for range 2 {
			if u := way.Status(w, byte(status)); !same(u, want) {
				t.Fatalf("%s, status %d: %v, want %v", way.Name(w), status, u, want)
			}
		}
	}
	if now := tells(w); now != was {
		t.Fatalf("%s, want %s", now, was)
	}
}

// P13.1: Status: of a way at its beginning, written out.
func TestStatusFirst(t *testing.T) {
	for _, cyclic := range both {
		w := way.New(setup.Usual(cyclic))
		if u := way.Status(w, api.SIB); !same(u, api.Unit{BSN: 127, BIB: true, FSN: 127, FIB: true, Kind: api.Link, Status: api.SIB}) {
			t.Errorf("%v", u)
		}
		statuses(t, w)
	}
}

// P13.1: Status: of a way that has sent and taken some, and turned its indicators, written out.
func TestStatusLater(t *testing.T) {
	for _, cyclic := range both {
		w := way.New(setup.Usual(cyclic))
		put(t, w, 3, 4, 5)
		w.Next()
		w.Next()
		for i := range uint8(4) {
			w.Take(api.Unit{FSN: i, FIB: true, Kind: api.Signal, Info: []byte("abc")})
		}
		want := api.Unit{BSN: 3, BIB: true, FSN: 1, FIB: true, Kind: api.Link, Status: api.SIOS}
		if u := way.Status(w, api.SIOS); !same(u, want) {
			t.Errorf("%v, want %v", u, want)
		}
		statuses(t, w)
		w.Answer(api.Unit{BSN: 127, BIB: false})
		w.Take(api.Unit{FSN: 9, FIB: true, Kind: api.Signal, Info: []byte("abc")})
		want.BIB, want.FIB = cyclic, cyclic
		if u := way.Status(w, api.SIOS); !same(u, want) {
			t.Errorf("%v, want %v", u, want)
		}
		statuses(t, w)
	}
}

// P13.1: Status changes nothing that any call tells, then or later.
func TestStatusChangesNothing(t *testing.T) {
	for seed := range 60 {
		s := setUp(seed%2 == 1, 40, 900, 6, 90)
		w, alone := way.New(s), way.New(s)
		r, ra := rand.New(rand.NewSource(int64(seed))), rand.New(rand.NewSource(int64(seed)))
		for i := range 400 {
			want := w.Fill()
			want.Kind, want.Status = api.Link, byte(i)
			if u := way.Status(w, byte(i)); !same(u, want) {
				t.Fatalf("seed %d, step %d: %v, want %v", seed, i, u, want)
			}
			if x, y := step(r, w)+tells(w), step(ra, alone)+tells(alone); x != y {
				t.Fatalf("seed %d, step %d: %.300s, want %.300s", seed, i, x, y)
			}
		}
		statuses(t, w)
	}
}

// P13.1, P1: Status: of nil a zero unit, whatever the status.
func TestStatusNil(t *testing.T) {
	for status := range 256 {
		if u := way.Status(nil, byte(status)); !same(u, api.Unit{}) {
			t.Errorf("%d: %v", status, u)
		}
	}
}

// P13.1: Most: N1 below, at and above Hold, N2 below, at and above Octets; with the basic one Hold below, at and above Window.
func TestMost(t *testing.T) {
	for _, x := range []struct {
		s                api.Setup
		messages, octets int
	}{
		{setup.Usual(true), 8, 300}, {setup.Usual(false), 16, 600},
		{setUp(true, 16, 600, 15, 599), 15, 599}, {setUp(true, 16, 600, 16, 600), 16, 600}, {setUp(true, 16, 600, 17, 601), 16, 600},
		{setUp(true, 16, 600, 1, 700), 1, 600}, {setUp(true, 16, 600, 100, 1), 16, 1},
		{setUp(true, 512, 1<<20, 127, 1<<20), 127, 1 << 20}, {setUp(true, 126, 273, 127, 274), 126, 273}, {setUp(true, 1, 273, 1, 1), 1, 1},
		{setUp(false, 126, 600, 1, 1), 126, 600}, {setUp(false, 127, 600, 1, 1), 127, 600}, {setUp(false, 128, 600, 127, 1), 127, 600},
		{setUp(false, 1, 273, 127, 1<<20), 1, 273}, {setUp(false, 512, 1<<20, 8, 300), 127, 1 << 20}, {setUp(false, 16, 273, 500, 272), 16, 273},
	} {
		if m, o := way.Most(x.s); m != x.messages || o != x.octets {
			t.Errorf("%v: %d, %d, want %d, %d", x.s, m, o, x.messages, x.octets)
		}
	}
}

// P13.1: Most: each Hold against each N1 of some, and Octets against N2; the timers don't touch it.
func TestMostAll(t *testing.T) {
	numbers := []int{1, 2, 3, 100, 125, 126, 127, 128, 129, 273, 300, 511, 512, 1 << 20}
	for _, hold := range numbers {
		for _, octets := range numbers {
			for _, n1 := range numbers {
				for _, n2 := range numbers {
					messages, many := n1, n2
					if hold < n1 {
						messages = hold
					}
					if octets < n2 {
						many = octets
					}
					s := setUp(true, hold, octets, n1, n2)
					if m, o := way.Most(s); m != messages || o != many {
						t.Fatalf("%v: %d, %d, want %d, %d", s, m, o, messages, many)
					}
					s.Cyclic, s.T = false, [8]int{hold, octets}
					messages = 127
					if hold < 127 {
						messages = hold
					}
					if m, o := way.Most(s); m != messages || o != octets {
						t.Fatalf("%v: %d, %d, want %d, %d", s, m, o, messages, octets)
					}
				}
			}
		}
	}
}

// within: does no more wait than a setup's Most says?
func within(w way.Way, s api.Setup) bool {
	messages, octets := way.Most(s)
	h := w.Hold()
	return h.Sent() <= messages && (h.Sent() < 2 || h.Waiting() <= octets)
}

// P13.1, P7: so many as Most says wait at last, where there are enough, and never more.
func TestMostWait(t *testing.T) {
	for _, n := range []int{1, 2, 8, 16, 126, 127} {
		for _, hold := range []int{1, 2, 15, 16, 17, 126, 127, 128, 512} {
			for _, cyclic := range both {
				s := setUp(cyclic, hold, 1<<20, n, 1<<20)
				w := way.New(s)
				put(t, w, slices.Repeat([]int{3}, hold)...)
				most := 0
				for range 1000 {
					w.Next()
					most = max(most, w.Hold().Sent())
				}
				if messages, _ := way.Most(s); most != messages {
					t.Errorf("%v: %d wait, want %d", s, most, messages)
				}
			}
		}
	}
}

// P13.1, P7: of more than one message so many octets as Most says wait at last, where they come to that, and never more.
func TestMostOctets(t *testing.T) {
	for _, x := range [][2]int{{600, 300}, {600, 599}, {600, 600}, {600, 601}, {300, 1 << 20}, {600, 150}} {
		for _, cyclic := range both {
			s := setUp(cyclic, 512, x[0], 127, x[1])
			w := way.New(s)
			for w.Hold().Put(text(0, 3)) == api.OK {
			}
			for range 1000 {
				w.Next()
				if !within(w, s) {
					t.Fatalf("%v: %d wait, of %d octets", s, w.Hold().Sent(), w.Hold().Waiting())
				}
			}
			messages, octets := way.Most(s)
			if got, want := w.Hold().Sent(), min(messages, octets/3); got != want {
				t.Errorf("%v: %d wait, want %d", s, got, want)
			}
		}
	}
}

// P13.1, P7: no more waits than Most says, whatever is put, sent, answered and taken.
func TestMostPlay(t *testing.T) {
	most := map[bool]int{}
	for seed := range 160 {
		r := rand.New(rand.NewSource(int64(seed)))
		s := setUp(seed%2 == 1, 1+r.Intn([]int{10, 512}[seed/2%2]), 273+r.Intn(20000), 1+r.Intn([]int{5, 127}[seed/4%2]), 1+r.Intn([]int{60, 3000}[seed/8%2]))
		w := way.New(s)
		for i := range 2000 {
			if did := step(r, w); !within(w, s) {
				t.Fatalf("seed %d, %v, step %d, %s: %d wait, of %d octets", seed, s, i, did, w.Hold().Sent(), w.Hold().Waiting())
			}
			most[s.Cyclic] = max(most[s.Cyclic], w.Hold().Sent())
		}
	}
	if most[false] < 20 || most[true] < 20 {
		t.Errorf("at most %v wait: little is tested", most)
	}
}

// line is units under way to a side, in order; each is as late as so many others are under way with it.
type line struct {
	units []api.Unit
	delay int
}

// sides are two ways of one kind joined by two lines; what each one's Hold was given, and what the other one took of that.
type sides struct {
	t           *testing.T
	r           *rand.Rand
	s           [2]api.Setup
	w           [2]way.Way
	l           [2]line // to each side
	given, came [2][]string
	lost        int
}

// newSides: by two setups that chance chooses.
func newSides(t *testing.T, r *rand.Rand, cyclic bool, delay int) *sides {
	s := &sides{t: t, r: r, l: [2]line{{delay: delay}, {delay: r.Intn(delay + 1)}}}
	for side := range 2 {
		s.s[side] = setup.Usual(cyclic)
		if r.Intn(4) > 0 {
			s.s[side] = setUp(cyclic, []int{1, 5, 127, 128, 512}[r.Intn(5)], []int{273, 2000, 1 << 20}[r.Intn(3)], []int{1, 2, 20, 127}[r.Intn(4)], []int{1, 40, 300, 1 << 20}[r.Intn(4)])
		}
		s.w[side] = way.New(s.s[side])
	}
	return s
}

// put: so many messages more, if there is room.
func (s *sides) put(side, n int) {
	for range n {
		size := 3 + s.r.Intn(5)
		if s.r.Intn(20) == 0 {
			size = 3 + s.r.Intn(271)
		}
		p := text(len(s.given[side])*2+side, size)
		if s.w[side].Hold().Put(p) == api.OK {
			s.given[side] = append(s.given[side], string(p))
		}
	}
}

// send: a side's next unit, or now and then a status, is under way, or it is lost; and no more waits than may.
func (s *sides) send(side int, lost bool) {
	u := s.w[side].Next()
	if s.r.Intn(30) == 0 {
		u = way.Status(s.w[side], api.SIB)
	}
	if !within(s.w[side], s.s[side]) {
		s.t.Fatalf("side %d, %v: %d wait", side, s.s[side], s.w[side].Hold().Sent())
	}
	if lost {
		s.lost++
		return
	}
	s.l[1-side].units = append(s.l[1-side].units, u)
}

// hear: a side gets the unit that has been under way for long enough: its message is the one behind those that came.
func (s *sides) hear(side int) {
	l := &s.l[side]
	if len(l.units) <= l.delay {
		return
	}
	u := l.units[0]
	l.units = l.units[1:]
	if _, e := s.w[side].Answer(u); e != api.OK {
		s.t.Fatalf("side %d, Answer of %v: %d", side, u, e)
	}
	p, ok, e := s.w[side].Take(u)
	if e != api.OK {
		s.t.Fatalf("side %d, Take of %v: %d", side, u, e)
	}
	if !ok {
		return
	}
	given := s.given[1-side]
	if n := len(s.came[side]); n >= len(given) || given[n] != string(p) {
		s.t.Fatalf("side %d took %x as its message %d", side, p, n)
	}
	s.came[side] = append(s.came[side], string(p))
}

// tick: each side sends a unit and gets one.
func (s *sides) tick(loss [2]float64) {
	for side := range 2 {
		s.send(side, s.r.Float64() < loss[side])
	}
	for side := range 2 {
		s.hear(side)
	}
}

// done: did all come, and does each side know it?
func (s *sides) done() bool {
	for side := range 2 {
		h := s.w[side].Hold()
		if h.Sent() != 0 || h.Next() != 0 || s.w[side].Resends() || len(s.came[side]) != len(s.given[1-side]) {
			return false
		}
	}
	return true
}

// finish: no more is lost: all comes, in time, and then nothing more.
func (s *sides) finish() {
	far := s.l[0].delay + s.l[1].delay
	// The slowest way is one message at a time: each waits till it was answered, and then a Fill is sent.
	most := (len(s.given[0])+len(s.given[1])+1)*(far+12) + 2000
	for n := 0; !s.done(); n++ {
		if n == most {
			s.t.Fatalf("%v: not all came: %d of %d, %d of %d", s.s, len(s.came[1]), len(s.given[0]), len(s.came[0]), len(s.given[1]))
		}
		s.tick([2]float64{})
	}
	for range 2*far + 20 {
		s.tick([2]float64{})
	}
	if !s.done() || !slices.Equal(s.came[0], s.given[1]) || !slices.Equal(s.came[1], s.given[0]) {
		s.t.Fatal("more came behind all")
	}
}

// P13.2: two ways of one kind joined by lines that lose units by chance: what one takes is at each time the beginning of what the other one's Hold was given, and at last all of it.
func TestLines(t *testing.T) {
	losses := [][2]float64{{0, 0}, {0.02, 0.02}, {0.3, 0.3}, {0.8, 0.8}, {0, 0.5}, {0.5, 0}, {0.95, 0.1}, {0.1, 0.95}}
	for _, cyclic := range both {
		came, lost := 0, 0
		for seed := range 80 {
			r := rand.New(rand.NewSource(int64(seed)))
			s := newSides(t, r, cyclic, []int{0, 1, 3, 20, 300}[seed%5])
			for range 5000 {
				if r.Intn(2) == 0 {
					s.put(r.Intn(2), r.Intn(3))
				}
				s.tick(losses[seed%8])
			}
			came += len(s.came[0]) + len(s.came[1])
			lost += s.lost
			s.finish()
		}
		if came < 80*300 || lost < 80*1000 {
			t.Errorf("%v: %d came, %d were lost: little is tested", cyclic, came, lost)
		}
	}
}

// P13.2: the same, where whole stretches are lost, one way, the other way, or both.
func TestLinesInStretches(t *testing.T) {
	for seed := range 60 {
		r := rand.New(rand.NewSource(int64(1000 + seed)))
		s := newSides(t, r, seed%2 == 1, []int{0, 2, 9, 130, 260}[seed%5])
		for range 60 {
			loss := [2]float64{float64(r.Intn(2)), float64(r.Intn(2))}
			if r.Intn(2) == 0 {
				loss = [2]float64{}
			}
			s.put(0, r.Intn(200)*r.Intn(2))
			s.put(1, r.Intn(200)*r.Intn(2))
			for range r.Intn(300) {
				s.tick(loss)
			}
		}
		if s.lost == 0 {
			t.Error("nothing was lost")
		}
		s.finish()
	}
}

// P13.2: the same, where the sides send and hear by turns that chance chooses.
func TestLinesUneven(t *testing.T) {
	for seed := range 60 {
		r := rand.New(rand.NewSource(int64(2000 + seed)))
		s := newSides(t, r, seed%2 == 1, 0)
		for range 10000 {
			side := r.Intn(2)
			switch r.Intn(5) {
			case 0:
				s.put(side, r.Intn(2))
			case 1, 2:
				s.send(side, r.Intn(4) == 0)
			default:
				s.hear(side)
			}
		}
		for range 10000 {
			s.hear(0)
			s.hear(1)
		}
		s.finish()
	}
}

// P13.2: each single unit of the first ones that two sides send is lost, and each two of them: all comes, each once.
func TestLinesEach(t *testing.T) {
	for _, cyclic := range both {
		for first := range 14 {
			for second := range 14 {
				s := newSides(t, rand.New(rand.NewSource(1)), cyclic, 1)
				for side := range 2 {
					s.s[side] = setUp(cyclic, 10, 1000, 3, 300)
					s.w[side] = way.New(s.s[side])
				}
				s.put(0, 4)
				s.put(1, 2)
				for n := range 14 {
					for side := range 2 {
						s.send(side, n*2+side == first || n*2+side == second+first)
					}
					s.hear(0)
					s.hear(1)
				}
				s.finish()
			}
		}
	}
}

// P1: each call ends, of each setup, of nil, and of ways that New hasn't made.
func TestEnds(t *testing.T) {
	for i, s := range setups() {
		way.Most(s)
		w := way.New(s)
		r := rand.New(rand.NewSource(int64(i)))
		for range 30 {
			step(r, w)
		}
		if s.Hold > 0 && s.Hold <= 512 && s.Octets > 0 && s.Octets <= 1<<20 && s.N1 > 0 && s.N2 > 0 && !within(w, s) {
			t.Errorf("%v: %d wait", s, w.Hold().Sent())
		}
	}
	for _, w := range []way.Way{nil, (*basic.Basic)(nil), (*cyclic.Cyclic)(nil), &basic.Basic{}, &cyclic.Cyclic{}} {
		way.Name(w)
		way.Cyclic(w)
		for status := range 256 {
			way.Status(w, byte(status))
		}
	}
}

// P2: of the same calls the same answers, whatever other ways do.
func TestAgain(t *testing.T) {
	run := func(cyclic bool, between func()) string {
		var all strings.Builder
		s := setUp(cyclic, 40, 900, 5, 60)
		w := way.New(s)
		r := rand.New(rand.NewSource(7))
		for i := range 600 {
			all.WriteString(step(r, w))
			between()
			all.WriteString(tells(w))
			between()
			messages, octets := way.Most(s)
			all.WriteString(fmt.Sprintln(way.Status(w, byte(i)), way.Cyclic(w), messages, octets))
		}
		return all.String()
	}
	b, c := way.New(setup.Usual(false)), way.New(setup.Usual(true))
	r := rand.New(rand.NewSource(8))
	for _, cyclic := range both {
		alone := run(cyclic, func() {})
		beside := run(cyclic, func() {
			step(r, b)
			step(r, c)
			way.Status(c, 3)
			way.Most(setUp(true, 1, 1, 1, 1))
		})
		if alone != beside {
			t.Errorf("%v: the same calls were answered otherwise", cyclic)
		}
	}
}

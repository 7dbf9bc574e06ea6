package align_test

import (
	"fmt"
	"math"
	"math/rand"
	"slices"
	"testing"

	"signalman/align"
	"signalman/api"
	"signalman/bucket"
	"signalman/clock"
	"signalman/setup"
)

// both is whether something is so, of either kind.
var both = []bool{false, true}

// times are the timers of set: no two alike.
var times = [8]int{11, 1001, 202, 303, 44, 505, 606, 707}

// set is a setup whose timers are told one from another.
func set() api.Setup {
	s := setup.Usual(false)
	s.T = times
	return s
}

// where is a place that an Align can be brought to: a State, with an emergency by either side, and with a proving that was given up so often.
type where struct {
	state      byte
	own, their bool
	tries      int
}

// places are all that an Align can be brought to, with few enough Tries that it goes on: Idle and Apart know no emergency by the other side, and Apart no Tries.
func places() []where {
	var all []where
	for _, own := range both {
		for tries := range bucket.Tries {
			all = append(all, where{align.Idle, own, false, tries})
			for _, their := range both {
				all = append(all, where{align.Near, own, their, tries}, where{align.Tried, own, their, tries})
			}
		}
		all = append(all, where{align.Apart, own, false, 0})
	}
	return all
}

// of are the places of these States.
func of(states ...byte) []where {
	return slices.DeleteFunc(places(), func(w where) bool { return !slices.Contains(states, w.state) })
}

// must tells that a call answered no reason.
func must(t *testing.T, why byte) {
	t.Helper()
	if why != api.None {
		t.Fatalf("reason %d", why)
	}
}

// giveUp: so many provings come to nothing.
func giveUp(t *testing.T, a *align.Align, times int) {
	t.Helper()
	n := a.Tries() + times
	for range bucket.Normal * times {
		if a.Tries() < n {
			must(t, a.Unit(true))
		}
	}
	if a.Tries() != n {
		t.Fatalf("Tries %d, want %d", a.Tries(), n)
	}
}

// bring makes an Align, and brings it to a place, on a clock of its own.
func bring(t *testing.T, w where) (*align.Align, *clock.Clock) {
	t.Helper()
	c := &clock.Clock{}
	a := align.New(set(), c)
	a.Hurry(w.own)
	if w.state == align.Apart {
		a.Begin()
	}
	if w.state == align.Near || w.state == align.Tried || w.tries > 0 {
		a.Begin()
		must(t, a.Heard(api.SIO))
	}
	if w.state == align.Tried || w.tries > 0 {
		must(t, a.Heard(api.SIN))
		giveUp(t, a, w.tries)
	}
	if w.state == align.Near && w.tries > 0 {
		must(t, a.Heard(api.SIO))
	}
	if w.state == align.Near && w.their {
		byTheirs(t, a)
	}
	if w.state == align.Tried && w.their {
		must(t, a.Heard(api.SIE))
	}
	if w.state == align.Idle {
		a.End()
	}
	if a.State != w.state || a.Own != w.own || a.Tries() != w.tries {
		t.Fatalf("%v: %d, %v, %d", w, a.State, a.Own, a.Tries())
	}
	return a, c
}

// byTheirs: an Align that is Near, with Tries or without, is Near by an emergency of the other side.
func byTheirs(t *testing.T, a *align.Align) {
	t.Helper()
	if tries := a.Tries(); tries > 0 {
		must(t, a.Heard(api.SIN)) // Tries are 0 with this, and are made again below
		must(t, a.Heard(api.SIE))
		giveUp(t, a, tries)
		must(t, a.Heard(api.SIO))
		return
	}
	a.Begin()
	must(t, a.Heard(api.SIE))
}

// fill starts all eight timers by other numbers than the setup's, and tells them.
func fill(t *testing.T, c *clock.Clock) [8]int {
	t.Helper()
	var l [8]int
	for i := range l {
		l[i] = 100000 + i
		if e := c.Start(i, l[i]); e != api.OK {
			t.Fatal(e)
		}
	}
	return l
}

// left is what is left of each timer.
func left(c *clock.Clock) [8]int {
	var l [8]int
	for i := range l {
		l[i] = c.Left(i)
	}
	return l
}

// with is what is left of timers, when one starts and some stop.
func with(l [8]int, start int, stop ...int) [8]int {
	for _, i := range stop {
		l[i] = 0
	}
	if start >= 0 {
		l[start] = times[start]
	}
	return l
}

// tells is all that an Align tells without being changed, and what is left of its timers.
func tells(a *align.Align, c *clock.Clock) string {
	return fmt.Sprint(a.State, a.Own, a.Sends(), a.Tries(), left(c))
}

// theirs: does an Align hold that the other side is in a hurry? It is asked by being brought on to be proved, so that it isn't what it was any more.
func theirs(t *testing.T, a *align.Align, c *clock.Clock) bool {
	t.Helper()
	a.Hurry(false)
	switch a.State {
	case align.Idle:
		t.Fatal("Idle tells nothing of it")
	case align.Apart:
		must(t, a.Heard(api.SIO))
		must(t, a.Heard(api.SIN))
	case align.Near:
		must(t, a.Heard(api.SIN))
	case align.Tried:
		must(t, a.Heard(api.SIO))
		must(t, a.Heard(api.SIN))
	}
	if a.State != align.Tried || c.On(0) == c.On(4) {
		t.Fatalf("it isn't proved: %s", tells(a, c))
	}
	return c.On(0)
}

// wantAll holds all that an Align tells, and its timers, against what they should be.
func wantAll(t *testing.T, what string, a *align.Align, c *clock.Clock, state byte, own bool, tries int, l [8]int) {
	t.Helper()
	if a.State != state || a.Own != own || a.Tries() != tries || left(c) != l {
		t.Fatalf("%s: State %d, Own %v, Tries %d, %v, want %d, %v, %d, %v", what, a.State, a.Own, a.Tries(), left(c), state, own, tries, l)
	}
}

// The chapter's example.
func TestExample(t *testing.T) {
	a := align.New(setup.Usual(false), &clock.Clock{})
	a.Begin()
	must(t, a.Heard(api.SIO))
	must(t, a.Heard(api.SIN))
	if a.State != align.Tried {
		t.Error(a.State)
	}
}

// P14.1: the States.
func TestStates(t *testing.T) {
	if all := []byte{align.Idle, align.Apart, align.Near, align.Tried}; !slices.Equal(all, []byte{0, 1, 2, 3}) {
		t.Error(all)
	}
}

// P14.1: New: Idle, without an emergency, Tries or a timer that it starts or stops.
func TestNew(t *testing.T) {
	c := &clock.Clock{}
	if a := align.New(set(), c); a == nil || a.Sends() != api.SIOS {
		t.Fatal("there is none, or it isn't Idle")
	} else {
		wantAll(t, "none runs", a, c, align.Idle, false, 0, [8]int{})
	}
	l := fill(t, c)
	wantAll(t, "all run", align.New(set(), c), c, align.Idle, false, 0, l)
	a := align.New(set(), c)
	a.Begin()
	if theirs(t, a, c) {
		t.Error("a new one has an emergency by the other side")
	}
}

// P14.1: New: its timers are those of the setup that it was made with, whichever method that says, on the clock that was handed in and on no other one.
func TestNewTimers(t *testing.T) {
	for _, cyclic := range both {
		for _, l := range [][8]int{{1, 2, 3, 4, 5, 6, 7, 8}, {api.MaxTime, 1, api.MaxTime, api.MaxTime, api.MaxTime, 1, 1, 1}, {1, 1, 1, 1, 1, 1, 1, 1}, times} {
			s := api.Setup{Cyclic: cyclic, T: l}
			c, other := &clock.Clock{}, &clock.Clock{}
			a := align.New(s, c)
			s.T = [8]int{99, 99, 99, 99, 99, 99, 99, 99}
			align.New(s, other)
			a.Begin()
			if got, want := left(c), ([8]int{2: l[2]}); got != want {
				t.Errorf("Begin: %v, want %v", got, want)
			}
			a.Heard(api.SIO)
			if got, want := left(c), ([8]int{3: l[3]}); got != want {
				t.Errorf("Near: %v, want %v", got, want)
			}
			a.Heard(api.SIN)
			if got, want := left(c), ([8]int{4: l[4]}); got != want {
				t.Errorf("Tried: %v, want %v", got, want)
			}
			a.Heard(api.SIE)
			if got, want := left(c), ([8]int{0: l[0]}); got != want {
				t.Errorf("in a hurry: %v, want %v", got, want)
			}
			if got := left(other); got != [8]int{} {
				t.Errorf("another clock: %v", got)
			}
		}
	}
}

// P14.1: Begin from each place: 0, 3, 4 stop, 2 starts, anew too, and the rest of the timers is left as it is.
func TestBegin(t *testing.T) {
	for _, w := range places() {
		what := fmt.Sprint("Begin at ", w)
		a, c := bring(t, w)
		a.Begin()
		wantAll(t, what, a, c, align.Apart, w.own, 0, [8]int{2: times[2]})
		a, c = bring(t, w)
		l := fill(t, c)
		a.Begin()
		wantAll(t, what+", all run", a, c, align.Apart, w.own, 0, with(l, 2, 0, 3, 4))
		if a.Sends() != api.SIO {
			t.Fatalf("%s: it sends %d", what, a.Sends())
		}
		if theirs(t, a, c) {
			t.Fatalf("%s: the other side is in a hurry", what)
		}
		a, c = bring(t, w)
		c.Clear()
		a.Begin()
		wantAll(t, what+", none runs", a, c, align.Apart, w.own, 0, [8]int{2: times[2]})
	}
}

// P14.1: End from each place: 0, 2, 3, 4 stop, the rest is left as it is; Own and Tries stay.
func TestEnd(t *testing.T) {
	for _, w := range places() {
		what := fmt.Sprint("End at ", w)
		a, c := bring(t, w)
		a.End()
		wantAll(t, what, a, c, align.Idle, w.own, w.tries, [8]int{})
		a, c = bring(t, w)
		l := fill(t, c)
		a.End()
		wantAll(t, what+", all run", a, c, align.Idle, w.own, w.tries, with(l, -1, 0, 2, 3, 4))
		if a.Sends() != api.SIOS {
			t.Fatalf("%s: it sends %d", what, a.Sends())
		}
		a.Begin()
		if theirs(t, a, c) {
			t.Fatalf("%s: the other side is in a hurry", what)
		}
	}
}

// P14.1: to come near, from Apart and from Tried: 0, 2, 4 stop, 3 starts, the rest is left as it is; the emergency by the other side stays, and comes with SIE.
func TestComeNear(t *testing.T) {
	for _, w := range of(align.Apart, align.Tried) {
		for _, status := range []byte{api.SIO, api.SIN, api.SIE} {
			if w.state == align.Tried && status != api.SIO {
				continue
			}
			what := fmt.Sprint(status, " at ", w)
			a, c := bring(t, w)
			must(t, a.Heard(status))
			wantAll(t, what, a, c, align.Near, w.own, w.tries, [8]int{3: times[3]})
			a, c = bring(t, w)
			l := fill(t, c)
			must(t, a.Heard(status))
			wantAll(t, what+", all run", a, c, align.Near, w.own, w.tries, with(l, 3, 0, 2, 4))
			if got, want := theirs(t, a, c), w.their || status == api.SIE; got != want {
				t.Fatalf("%s: an emergency by the other side: %v", what, got)
			}
		}
	}
}

// wantProved holds an Align that had all timers running, and is proved now, against the chapter's words: the timer, and at how many units that aren't right it is given up.
func wantProved(t *testing.T, what string, a *align.Align, c *clock.Clock, l [8]int, own, hurry bool, tries int) {
	t.Helper()
	timer, most := 4, 4
	if hurry {
		timer, most = 0, 1
	}
	wantAll(t, what, a, c, align.Tried, own, tries, with(l, timer, 0, 2, 3, 4))
	if tries >= bucket.Tries-1 {
		return
	}
	for range most - 1 {
		must(t, a.Unit(true))
		if a.Tries() != tries {
			t.Fatalf("%s: given up too soon", what)
		}
	}
	must(t, a.Unit(true))
	if a.Tries() != tries+1 {
		t.Fatalf("%s: not given up at %d", what, most)
	}
}

// P14.1: to be proved, from Near: by SIN and SIE, in a hurry by this side, by the other one, by both and by none.
func TestProvedFromNear(t *testing.T) {
	for _, w := range of(align.Near) {
		for _, status := range []byte{api.SIN, api.SIE} {
			a, c := bring(t, w)
			l := fill(t, c)
			must(t, a.Heard(status))
			wantProved(t, fmt.Sprint(status, " at ", w), a, c, l, w.own, w.own || w.their || status == api.SIE, 0)
		}
	}
}

// P14.1: to be proved anew, as it is given up: the same Tries, and one; none that isn't right is counted.
func TestProvedAnew(t *testing.T) {
	for _, w := range of(align.Tried) {
		if w.tries == bucket.Tries-1 {
			continue
		}
		a, c := bring(t, w)
		hurry := w.own || w.their
		if !hurry {
			for range 3 {
				must(t, a.Unit(true))
			}
		}
		l := fill(t, c)
		must(t, a.Unit(true))
		wantProved(t, fmt.Sprint("given up at ", w), a, c, l, w.own, hurry, w.tries+1)
	}
}

// P14.1: to be proved anew, as it comes to be in a hurry: the same Tries, and none that isn't right is counted, however many were.
func TestProvedInHurry(t *testing.T) {
	for _, w := range of(align.Tried) {
		if w.own || w.their {
			continue
		}
		for wrong := range 4 {
			for _, by := range []string{"Hurry", "SIE"} {
				a, c := bring(t, w)
				for range wrong {
					must(t, a.Unit(true))
				}
				l := fill(t, c)
				if by == "Hurry" {
					a.Hurry(true)
				} else {
					must(t, a.Heard(api.SIE))
				}
				wantProved(t, fmt.Sprint(by, " at ", w, ", wrong ", wrong), a, c, l, by == "Hurry", true, w.tries)
			}
		}
	}
}

// P14.1: an emergency that is over while it is proved leaves the proving as it is; the next one that begins goes without it.
func TestProvedCalm(t *testing.T) {
	a, c := bring(t, where{align.Tried, true, false, 1})
	l := fill(t, c)
	a.Hurry(false)
	wantAll(t, "calm", a, c, align.Tried, false, 1, l)
	must(t, a.Unit(true))
	wantProved(t, "given up by one, as it was in a hurry", a, c, with(l, -1, 0, 2, 3, 4), false, false, 2)
	a, c = bring(t, where{align.Tried, true, false, 1})
	a.Hurry(false)
	must(t, a.Heard(api.SIO))
	must(t, a.Heard(api.SIN))
	wantProved(t, "near again", a, c, [8]int{}, false, false, 0)
}

// P14.1: Tries stay when it is Tried no more, are 0 with Begin, and are 0 where it is proved from Near, and just there.
func TestTriesStay(t *testing.T) {
	for tries := range bucket.Tries {
		a, c := bring(t, where{align.Tried, false, false, tries})
		must(t, a.Heard(api.SIO))
		wantAll(t, "near", a, c, align.Near, false, tries, [8]int{3: times[3]})
		for _, status := range []byte{api.SIO, api.SIPO, api.SIB, 77} {
			must(t, a.Heard(status))
			wantAll(t, "still near", a, c, align.Near, false, tries, [8]int{3: times[3]})
		}
		if why := a.Heard(api.SIOS); why != api.TheirStop || a.Tries() != tries {
			t.Errorf("SIOS: %d, Tries %d", why, a.Tries())
		}
		a.End()
		wantAll(t, "End", a, c, align.Idle, false, tries, [8]int{})
		a.Begin()
		wantAll(t, "Begin", a, c, align.Apart, false, 0, [8]int{2: times[2]})
		for _, timer := range []int{0, 4} {
			a, c = bring(t, where{align.Tried, false, false, tries})
			if done, _ := a.Out(timer); !done || a.Tries() != tries {
				t.Errorf("proved: %v, Tries %d", done, a.Tries())
			}
			a.Begin()
			wantAll(t, "Begin", a, c, align.Apart, false, 0, [8]int{2: times[2]})
		}
	}
}

// P14.2: Heard: each status, at each place.
func TestHeard(t *testing.T) {
	for _, w := range places() {
		for status := range 256 {
			heard(t, w, byte(status))
		}
	}
}

// heard: of one status at one place: what is answered, and what becomes of the Align and its timers.
func heard(t *testing.T, w where, status byte) {
	t.Helper()
	a, c := bring(t, w)
	l := fill(t, c)
	why := a.Heard(status)
	what := fmt.Sprint("Heard(", status, ") at ", w)
	want := byte(api.None)
	if status == api.SIOS && (w.state == align.Near || w.state == align.Tried) {
		want = api.TheirStop
	}
	if why != want {
		t.Fatalf("%s = %d, want %d", what, why, want)
	}
	switch {
	case w.state == align.Apart && status <= api.SIE, w.state == align.Tried && status == api.SIO:
		wantAll(t, what, a, c, align.Near, w.own, w.tries, with(l, 3, 0, 2, 4))
	case w.state == align.Near && status == api.SIN:
		wantProved(t, what, a, c, l, w.own, w.own || w.their, 0)
		return
	case w.state == align.Near && status == api.SIE:
		wantProved(t, what, a, c, l, w.own, true, 0)
		return
	case w.state == align.Tried && status == api.SIE && !w.own && !w.their:
		wantProved(t, what, a, c, l, w.own, true, w.tries)
		return
	default:
		wantAll(t, what, a, c, w.state, w.own, w.tries, l)
	}
	if a.State == align.Idle { // which knows no emergency by the other side, whatever it heard
		a.Begin()
	}
	if got, want := theirs(t, a, c), w.their || status == api.SIE && w.state != align.Idle; got != want {
		t.Fatalf("%s: an emergency by the other side: %v, want %v", what, got, want)
	}
}

// P14.2: SIOS: while it is Apart it goes on; Near, and Tried, TheirStop, also with a proving that has counted some.
func TestHeardStop(t *testing.T) {
	a, c := bring(t, where{align.Apart, false, false, 0})
	for range 5 {
		c.Tick()
		must(t, a.Heard(api.SIOS))
	}
	wantAll(t, "Apart", a, c, align.Apart, false, 0, [8]int{2: times[2] - 5})
	must(t, a.Heard(api.SIN))
	c.Tick()
	for range 5 {
		if why := a.Heard(api.SIOS); why != api.TheirStop {
			t.Error(why)
		}
	}
	wantAll(t, "Near", a, c, align.Near, false, 0, [8]int{3: times[3] - 1})
	must(t, a.Heard(api.SIN))
	for range 3 {
		must(t, a.Unit(true))
	}
	c.Tick()
	for range 5 {
		if why := a.Heard(api.SIOS); why != api.TheirStop {
			t.Error(why)
		}
	}
	wantAll(t, "Tried", a, c, align.Tried, false, 0, [8]int{4: times[4] - 1})
	must(t, a.Unit(true))
	wantAll(t, "what was counted stays", a, c, align.Tried, false, 1, [8]int{4: times[4]})
}

// P14.2: SIE first, later, and twice: the first one counts, and one more changes nothing; with Own it changes nothing of the proving.
func TestHeardEmergency(t *testing.T) {
	for _, own := range both {
		for _, l := range [][]byte{{api.SIE, api.SIN}, {api.SIO, api.SIE}, {api.SIE, api.SIE}, {api.SIN, api.SIE}, {api.SIO, api.SIN, api.SIE}, {api.SIN, api.SIN, api.SIE}, {api.SIE, api.SIO, api.SIN}, {api.SIE, api.SIPO, api.SIB, api.SIN}} {
			a, c := bring(t, where{align.Apart, own, false, 0})
			for _, status := range l {
				must(t, a.Heard(status))
			}
			wantAll(t, fmt.Sprint(l, own), a, c, align.Tried, own, 0, [8]int{0: times[0]})
			c.Tick()
			for _, status := range []byte{api.SIE, api.SIN, api.SIE} {
				must(t, a.Heard(status))
			}
			wantAll(t, fmt.Sprint(l, own, " and more"), a, c, align.Tried, own, 0, [8]int{0: times[0] - 1})
		}
	}
}

// P14.2: SIN while it is Tried, in a hurry and not: nothing, as often as it comes.
func TestHeardNormal(t *testing.T) {
	for _, w := range of(align.Tried) {
		a, c := bring(t, w)
		c.Tick()
		was := tells(a, c)
		for range 10 {
			must(t, a.Heard(api.SIN))
		}
		if now := tells(a, c); now != was {
			t.Errorf("%v: %s, was %s", w, now, was)
		}
	}
}

// P14.2: Hurry, on and off at each place: Own is that; while it is Tried, and just if it wasn't in a hurry, it is proved.
func TestHurry(t *testing.T) {
	for _, w := range places() {
		for _, on := range both {
			what := fmt.Sprint("Hurry(", on, ") at ", w)
			a, c := bring(t, w)
			l := fill(t, c)
			a.Hurry(on)
			if w.state == align.Tried && on && !w.own && !w.their {
				wantProved(t, what, a, c, l, true, true, w.tries)
				continue
			}
			wantAll(t, what, a, c, w.state, on, w.tries, l)
			a.Hurry(on)
			wantAll(t, what+", twice", a, c, w.state, on, w.tries, l)
			if w.state == align.Idle {
				a.Begin()
			}
			if got := theirs(t, a, c); got != w.their {
				t.Fatalf("%s: an emergency by the other side: %v", what, got)
			}
		}
	}
}

// P14.2: Hurry, on again while it is Tried: proved anew, as it wasn't in a hurry between; not so where the other side was all the while.
func TestHurryAgain(t *testing.T) {
	for _, their := range both {
		a, c := bring(t, where{align.Tried, true, their, 2})
		c.Tick()
		a.Hurry(false)
		wantAll(t, "off", a, c, align.Tried, false, 2, [8]int{0: times[0] - 1})
		a.Hurry(true)
		want := [8]int{0: times[0]}
		if their {
			want[0]--
		}
		wantAll(t, "on again", a, c, align.Tried, true, 2, want)
	}
}

// P14.2: Unit: right ones, and ones that aren't, at each place; it counts while it is Tried alone.
func TestUnit(t *testing.T) {
	for _, w := range places() {
		for _, wrong := range both {
			if w.state == align.Tried && wrong {
				continue
			}
			a, c := bring(t, w)
			l := fill(t, c)
			for range 30 {
				must(t, a.Unit(wrong))
			}
			wantAll(t, fmt.Sprint("Unit(", wrong, ") at ", w), a, c, w.state, w.own, w.tries, l)
		}
	}
	a, c := bring(t, where{align.Near, false, false, 0})
	for range 30 {
		must(t, a.Unit(true))
	}
	must(t, a.Heard(api.SIN))
	wantProved(t, "wrong ones that came while it was Near", a, c, [8]int{}, false, false, 0)
}

// P14.2: Unit: by each that isn't right, from the first one on: with and without a hurry the last that is let by, the one that gives up, and the one that ends it. Right ones between change nothing.
func TestUnitByUnit(t *testing.T) {
	for _, rights := range []int{0, 1, 50} {
		for _, w := range []where{{align.Tried, false, false, 0}, {align.Tried, true, false, 0}, {align.Tried, false, true, 0}, {align.Tried, true, true, 0}} {
			a, c := bring(t, w)
			timer, most := 4, 4
			if w.own || w.their {
				timer, most = 0, 1
			}
			ticks := times[timer]
			for wrong := 1; wrong <= 5*most; wrong++ {
				for range rights {
					must(t, a.Unit(false))
				}
				c.Tick()
				ticks--
				why := a.Unit(true)
				if wrong%most == 0 && wrong < 5*most {
					ticks = times[timer]
				}
				want := byte(api.None)
				if wrong == 5*most {
					want = api.Proving
				}
				if why != want {
					t.Fatalf("%v, wrong %d: %d, want %d", w, wrong, why, want)
				}
				l := [8]int{}
				l[timer] = ticks
				wantAll(t, fmt.Sprint(w, ", wrong ", wrong), a, c, align.Tried, w.own, wrong/most, l)
			}
		}
	}
}

// P14.2: Unit: Tries of a hurry and of the long proof count together.
func TestUnitBothTimes(t *testing.T) {
	a, c := bring(t, where{align.Tried, false, false, 0})
	giveUp(t, a, 2)
	must(t, a.Unit(true))
	a.Hurry(true)
	giveUp(t, a, 2)
	wantAll(t, "four", a, c, align.Tried, true, 4, [8]int{0: times[0]})
	if why := a.Unit(true); why != api.Proving {
		t.Error(why)
	}
}

// P14.2: Unit: behind Proving it is as it was, but for the Proof, which counts on: each time that it is given up is too often, too, till it is proved from Near.
func TestUnitTooOften(t *testing.T) {
	a, c := bring(t, where{align.Tried, false, false, 4})
	for n := range 3 {
		l := fill(t, c)
		for range 3 {
			must(t, a.Unit(true))
		}
		if why := a.Unit(true); why != api.Proving {
			t.Fatalf("%d: %d", n, why)
		}
		wantAll(t, "Proving", a, c, align.Tried, false, 5+n, l)
	}
	must(t, a.Unit(false))
	must(t, a.Heard(api.SIO))
	must(t, a.Heard(api.SIN))
	giveUp(t, a, 4)
	if a.Tries() != 4 {
		t.Error(a.Tries())
	}
}

// timers are all there are, and others.
var timers = []int{math.MinInt, -4, -2, -1, 0, 1, 2, 3, 4, 5, 6, 7, 8, 9, 10, 12, 256, 258, 259, 260, 1 << 32, 1<<32 + 4, math.MaxInt}

// P14.3: Out: each timer, and others, at each place.
func TestOut(t *testing.T) {
	for _, w := range places() {
		for _, timer := range timers {
			what := fmt.Sprint("Out(", timer, ") at ", w)
			a, c := bring(t, w)
			l := fill(t, c)
			done, why := a.Out(timer)
			if w.state == align.Tried && (timer == 0 || timer == 4) {
				if !done || why != api.None {
					t.Fatalf("%s = %v, %d", what, done, why)
				}
				wantAll(t, what, a, c, align.Idle, w.own, w.tries, with(l, -1, 0, 2, 3, 4))
				a.Begin()
				if theirs(t, a, c) {
					t.Fatalf("%s: the other side is in a hurry", what)
				}
				continue
			}
			want := byte(api.None)
			if w.state == align.Apart && timer == 2 || w.state == align.Near && timer == 3 {
				want = api.NoAlign
			}
			if done || why != want {
				t.Fatalf("%s = %v, %d, want %d", what, done, why, want)
			}
			wantAll(t, what, a, c, w.state, w.own, w.tries, l)
		}
	}
}

// P14.3: Sends, at each place: the other side's emergency changes nothing.
func TestSends(t *testing.T) {
	for _, w := range places() {
		a, c := bring(t, w)
		want := byte(api.SIN)
		switch {
		case w.state == align.Idle:
			want = api.SIOS
		case w.state == align.Apart:
			want = api.SIO
		case w.own:
			want = api.SIE
		}
		was := tells(a, c)
		for range 3 {
			if got := a.Sends(); got != want {
				t.Fatalf("%v: %d, want %d", w, got, want)
			}
		}
		if now := tells(a, c); now != was {
			t.Fatalf("%v: %s, was %s", w, now, was)
		}
		a.Hurry(!w.own)
		if w.state == align.Near || w.state == align.Tried {
			want = api.SIN + api.SIE - want
		}
		if got := a.Sends(); got != want {
			t.Fatalf("%v, and Own isn't so: %d, want %d", w, got, want)
		}
	}
}

// P14.3: Tries, by each proving that is given up; asking changes nothing.
func TestTries(t *testing.T) {
	for _, w := range places() {
		a, c := bring(t, w)
		was := tells(a, c)
		for range 3 {
			if got := a.Tries(); got != w.tries {
				t.Fatalf("%v: %d", w, got)
			}
		}
		if now := tells(a, c); now != was {
			t.Fatalf("%v: %s, was %s", w, now, was)
		}
	}
}

// P14.3: each call of a nil Align.
func TestNil(t *testing.T) {
	var a *align.Align
	a.Begin()
	a.End()
	for _, on := range both {
		a.Hurry(on)
		if why := a.Unit(on); why != api.None {
			t.Errorf("Unit(%v) = %d", on, why)
		}
	}
	for status := range 256 {
		if why := a.Heard(byte(status)); why != api.None {
			t.Errorf("Heard(%d) = %d", status, why)
		}
	}
	for _, timer := range timers {
		if done, why := a.Out(timer); done || why != api.None {
			t.Errorf("Out(%d) = %v, %d", timer, done, why)
		}
	}
	if a.Sends() != api.SIOS || a.Tries() != 0 {
		t.Error(a.Sends(), a.Tries())
	}
}

// P1: an Align without a clock, one by a setup that no timer may run by, and one that New hasn't made: no call panics; of the first two State, Own, Sends and Tries go on as ever.
func TestOddMaking(t *testing.T) {
	many := api.Setup{T: [8]int{api.MaxTime + 1, 0, api.MaxTime + 1, math.MaxInt, math.MaxInt, 0, 0, 0}}
	few := api.Setup{T: [8]int{-1, -1, math.MinInt, -1, 0, -1, -1, -1}}
	for seed := range 40 {
		c, unheard := &clock.Clock{}, &clock.Clock{}
		a := align.New(set(), c)
		odd := []*align.Align{align.New(set(), nil), align.New(many, unheard), align.New(few, unheard), align.New(api.Setup{}, unheard)}
		zero := &align.Align{}
		r := rand.New(rand.NewSource(int64(seed)))
		for range 500 {
			x := chance(r)
			want := x.do(a)
			x.do(zero)
			for i, o := range odd {
				if got := x.do(o); got != want || o.State != a.State || o.Own != a.Own || o.Sends() != a.Sends() || o.Tries() != a.Tries() {
					t.Fatalf("seed %d, %d: %v: %v, want %v; %d, %v", seed, i, x, got, want, o.State, o.Own)
				}
			}
			if left(unheard) != [8]int{} {
				t.Fatalf("seed %d, %v: a timer that can't be started runs: %v", seed, x, left(unheard))
			}
		}
	}
}

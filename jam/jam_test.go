package jam_test

import (
	"fmt"
	"math"
	"slices"
	"testing"

	"signalman/api"
	"signalman/clock"
	"signalman/jam"
	"signalman/setup"
)

// both is whether something is so, of either kind.
var both = []bool{false, true}

// times are the timers of set: no two alike.
var times = [8]int{11, 1001, 202, 303, 44, 55, 606, 707}

// numbers are timers, those there are and others below and above.
var numbers = []int{math.MinInt, -8, -3, -2, -1, 0, 1, 2, 3, 4, 5, 6, 7, 8, 9, 13, 14, 15, 255, 256, 261, 262, 1<<32 + 5, 1<<32 + 6, math.MaxInt}

// set is a setup whose timers are told one from another.
func set() api.Setup {
	s := setup.Usual(false)
	s.T = times
	return s
}

// where is a place that a Jam can be brought to.
type where struct{ own, their, due bool }

// places are all there are: a status is due just while this side is busy.
func places() []where {
	var all []where
	for _, their := range both {
		all = append(all, where{false, their, false}, where{true, their, false}, where{true, their, true})
	}
	return all
}

// bring makes a Jam on a clock of its own, brings it to a place, and has the timers run that a mask names, by other numbers than the setup's.
func bring(t *testing.T, w where, mask int) (*jam.Jam, *clock.Clock, [8]int) {
	t.Helper()
	c := &clock.Clock{}
	j := jam.New(set(), c)
	if w.own {
		j.Begin()
		if !w.due {
			j.Due()
		}
	}
	if w.their {
		j.Heard(false)
	}
	if j.Own != w.own || j.Their != w.their {
		t.Fatalf("%v: %v, %v", w, j.Own, j.Their)
	}
	c.Clear()
	var l [8]int
	for i := range l {
		if mask>>i&1 == 0 {
			continue
		}
		l[i] = 100000 + i
		if e := c.Start(i, l[i]); e != api.OK {
			t.Fatal(e)
		}
	}
	return j, c, l
}

// each goes to each place with each set of timers that run, and tells what a call is held against: what it is named, the Jam, its clock, and what is left of each timer.
func each(t *testing.T, name string, f func(what string, w where, j *jam.Jam, c *clock.Clock, l [8]int)) {
	t.Helper()
	for _, w := range places() {
		for mask := range 256 {
			j, c, l := bring(t, w, mask)
			f(fmt.Sprintf("%s at %+v, timers %08b", name, w, mask), w, j, c, l)
		}
	}
}

// left is what is left of each timer.
func left(c *clock.Clock) [8]int {
	var l [8]int
	for i := range l {
		l[i] = c.Left(i)
	}
	return l
}

// started is what is left of timers, when some start by the setup's numbers.
func started(l [8]int, which ...int) [8]int {
	for _, i := range which {
		l[i] = times[i]
	}
	return l
}

// stopped is what is left of timers, when some stop.
func stopped(l [8]int, which ...int) [8]int {
	for _, i := range which {
		l[i] = 0
	}
	return l
}

// want holds all that a Jam tells, and its timers, against what they should be. It asks whether a status is due, so that none is behind it.
func want(t *testing.T, what string, j *jam.Jam, c *clock.Clock, w where, l [8]int) {
	t.Helper()
	if j.Own != w.own || j.Their != w.their || left(c) != l {
		t.Fatalf("%s: Own %v, Their %v, %v, want %+v, %v", what, j.Own, j.Their, left(c), w, l)
	}
	if due := j.Due(); due != w.due || j.Due() {
		t.Fatalf("%s: due %v, want %v, and then none", what, due, w.due)
	}
}

// The chapter's example.
func TestExample(t *testing.T) {
	j := jam.New(setup.Usual(false), &clock.Clock{})
	j.Begin()
	if !j.Due() || j.Due() {
		t.Error("a status is due once")
	}
}

// P16.1: New: none is busy, none is due, and no timer starts or stops.
func TestNew(t *testing.T) {
	for mask := range 256 {
		_, c, l := bring(t, where{}, mask)
		j := jam.New(set(), c)
		if j == nil {
			t.Fatal("there is none")
		}
		want(t, fmt.Sprint("New, timers ", mask), j, c, where{}, l)
	}
}

// P16.1: New: its timers are those of the setup that it was made with, on the clock that was handed in and on no other one.
func TestNewTimers(t *testing.T) {
	for _, cyclic := range both {
		for _, l := range [][8]int{{1, 2, 3, 4, 5, 6, 7, 8}, {1, 1, 1, 1, api.MaxTime, 1, api.MaxTime, api.MaxTime}, {5: 1, 6: api.MaxTime, 7: 1}, times, setup.Usual(cyclic).T} {
			s := api.Setup{Cyclic: cyclic, T: l}
			c, other := &clock.Clock{}, &clock.Clock{}
			j := jam.New(s, c)
			s.T = [8]int{99, 99, 99, 99, 99, 99, 99, 99}
			jam.New(s, other)
			j.Begin()
			if got, want := left(c), ([8]int{5: l[5]}); got != want {
				t.Errorf("Begin: %v, want %v", got, want)
			}
			j.Heard(false)
			if got, want := left(c), ([8]int{5: l[5], 6: l[6]}); got != want {
				t.Errorf("Heard: %v, want %v", got, want)
			}
			j.Heard(true)
			if got, want := left(c), ([8]int{5: l[5], 6: l[6], 7: l[7]}); got != want {
				t.Errorf("Heard, and something waits: %v, want %v", got, want)
			}
			c.Clear()
			j.Out(5)
			if got, want := left(c), ([8]int{5: l[5]}); got != want {
				t.Errorf("Out: %v, want %v", got, want)
			}
			if got := left(other); got != [8]int{} {
				t.Errorf("another clock: %v", got)
			}
		}
	}
}

// P16.1: Begin: where this side isn't busy it is, a status is due and 5 starts, anew too; where it is nothing happens. What is left of the rest is left as it is.
func TestBegin(t *testing.T) {
	each(t, "Begin", func(what string, w where, j *jam.Jam, c *clock.Clock, l [8]int) {
		j.Begin()
		if w.own {
			want(t, what, j, c, w, l)
			return
		}
		want(t, what, j, c, where{true, w.their, true}, started(l, 5))
	})
}

// P16.1: a second Begin starts no timer, whatever is left of it, and makes no status due, whether the first one was told or not.
func TestBeginTwice(t *testing.T) {
	for _, told := range both {
		for ticks := range times[5] + 3 {
			c := &clock.Clock{}
			j := jam.New(set(), c)
			j.Begin()
			if told {
				j.Due()
			}
			for range ticks {
				c.Tick()
			}
			l := left(c)
			j.Begin()
			want(t, fmt.Sprint("Begin again, ticks ", ticks), j, c, where{true, false, !told}, l)
		}
	}
}

// P16.1: End: this side isn't busy, none is due, 5 stops: with a status due and without, with Own and without.
func TestEnd(t *testing.T) {
	each(t, "End", func(what string, w where, j *jam.Jam, c *clock.Clock, l [8]int) {
		j.End()
		want(t, what, j, c, where{false, w.their, false}, stopped(l, 5))
	})
}

// P16.1: behind End a side can be busy again.
func TestEndBegin(t *testing.T) {
	each(t, "End, Begin", func(what string, w where, j *jam.Jam, c *clock.Clock, l [8]int) {
		j.End()
		j.Begin()
		want(t, what, j, c, where{true, w.their, true}, started(l, 5))
	})
}

// P16.1: Due: is one due? Then none is, until the next. It does nothing else.
func TestDue(t *testing.T) {
	each(t, "Due", func(what string, w where, j *jam.Jam, c *clock.Clock, l [8]int) {
		if got := j.Due(); got != w.due {
			t.Fatalf("%s: %v", what, got)
		}
		for range 3 {
			if j.Due() {
				t.Fatalf("%s: again", what)
			}
		}
		want(t, what, j, c, where{w.own, w.their, false}, l)
		if j.Out(5); w.own && !j.Due() {
			t.Fatalf("%s: no next one", what)
		}
	})
}

// P16.1: Heard: with waits 7 starts, anew too, the first time and again; 6 starts the first time alone: true.
func TestHeard(t *testing.T) {
	for _, waits := range both {
		each(t, fmt.Sprintf("Heard(%v)", waits), func(what string, w where, j *jam.Jam, c *clock.Clock, l [8]int) {
			if waits {
				l = started(l, 7)
			}
			if !w.their {
				l = started(l, 6)
			}
			if got := j.Heard(waits); got == w.their {
				t.Fatalf("%s: %v", what, got)
			}
			want(t, what, j, c, where{w.own, true, w.due}, l)
		})
	}
}

// P16.1: Heard again and again, with waits and without by turns, at any time: 7 starts anew each time with waits, 6 never does.
func TestHeardAgain(t *testing.T) {
	for _, every := range []int{1, 2, 3, 50, 605} {
		c := &clock.Clock{}
		j := jam.New(set(), c)
		if !j.Heard(true) {
			t.Fatal("the first time is no news")
		}
		six, seven := times[6], times[7]
		for i := 1; i < times[6]; i++ {
			c.Tick()
			six, seven = six-1, seven-1
			if i%every == 0 {
				waits := i/every%2 == 1
				if waits {
					seven = times[7]
				}
				if j.Heard(waits) {
					t.Fatalf("every %d, tick %d: news", every, i)
				}
			}
			if got, want := left(c), ([8]int{6: six, 7: seven}); got != want {
				t.Fatalf("every %d, tick %d: %v, want %v", every, i, got, want)
			}
		}
	}
}

// P16.1: Answer: where the other side is busy it isn't any more, and 6 stops: true; else nothing.
func TestAnswer(t *testing.T) {
	each(t, "Answer", func(what string, w where, j *jam.Jam, c *clock.Clock, l [8]int) {
		if w.their {
			l = stopped(l, 6)
		}
		if got := j.Answer(); got != w.their {
			t.Fatalf("%s: %v", what, got)
		}
		if j.Answer() {
			t.Fatalf("%s: again", what)
		}
		want(t, what, j, c, where{w.own, false, w.due}, l)
		if !j.Heard(false) {
			t.Fatalf("%s: the other side is busy again, and that is no news", what)
		}
	})
}

// P16.1: Out of each timer there is, and of others: 5 with Own makes a status due and starts 5, 6 with Their is Busy, and nothing else happens.
func TestOut(t *testing.T) {
	for _, timer := range numbers {
		each(t, fmt.Sprint("Out ", timer), func(what string, w where, j *jam.Jam, c *clock.Clock, l [8]int) {
			why, next := api.None, w
			if timer == 5 && w.own {
				next.due = true
				l = started(l, 5)
			}
			if timer == 6 && w.their {
				why = api.Busy
			}
			if got := j.Out(timer); got != why {
				t.Fatalf("%s: %d, want %d", what, got, why)
			}
			want(t, what, j, c, next, l)
		})
	}
}

// P16.1: Clear from each place: neither is busy, none is due, 5 and 6 stop, and 7 runs on with all the rest.
func TestClear(t *testing.T) {
	each(t, "Clear", func(what string, w where, j *jam.Jam, c *clock.Clock, l [8]int) {
		j.Clear()
		want(t, what, j, c, where{}, stopped(l, 5, 6))
		j.Begin()
		if !j.Heard(true) {
			t.Fatalf("%s: the other side is busy, and that is no news", what)
		}
		want(t, what+", and anew", j, c, where{true, true, true}, started(l, 5, 6, 7))
	})
}

// P16.1, P1: a nil Jam: false, None.
func TestNil(t *testing.T) {
	var j *jam.Jam
	j.Begin()
	j.End()
	j.Clear()
	for _, waits := range both {
		if j.Heard(waits) {
			t.Error("Heard")
		}
	}
	if j.Due() || j.Answer() {
		t.Error("true of a nil Jam")
	}
	for _, timer := range numbers {
		if why := j.Out(timer); why != api.None {
			t.Errorf("Out(%d): %d", timer, why)
		}
	}
}

// P1: a Jam without a clock, or with a setup that may not be, ends each call: what isn't a time starts no timer; all else is as it is.
func TestOddMaking(t *testing.T) {
	odd := [][8]int{{}, {math.MinInt, -1, 0, -1, 0, -1, 0, math.MinInt}, {5: api.MaxTime + 1, 6: math.MaxInt, 7: api.MaxTime + 1}}
	for _, l := range append(odd, times) {
		for _, c := range []*clock.Clock{nil, {}} {
			if c != nil && l == times {
				continue
			}
			j := jam.New(api.Setup{T: l}, c)
			for range 2 {
				j.Begin()
				if !j.Own || !j.Due() || j.Due() || !j.Heard(true) || j.Heard(true) || j.Out(5) != api.None || !j.Due() || j.Out(6) != api.Busy || left(c) != [8]int{} {
					t.Fatalf("%v", l)
				}
				j.End()
				if j.Own || j.Due() || !j.Answer() || j.Answer() || j.Out(5) != api.None || j.Due() || j.Out(6) != api.None {
					t.Fatalf("%v", l)
				}
				j.Begin()
				j.Heard(false)
				j.Clear()
				if j.Own || j.Their || j.Due() {
					t.Fatalf("%v", l)
				}
			}
		}
	}
}

// P2: two Jams on clocks of their own know nothing of each other; two on one clock share its timers, and nothing else.
func TestApart(t *testing.T) {
	c, d := &clock.Clock{}, &clock.Clock{}
	j, k, same := jam.New(set(), c), jam.New(set(), d), jam.New(set(), c)
	j.Begin()
	j.Heard(true)
	want(t, "on another clock", k, d, where{}, [8]int{})
	want(t, "on the same clock", same, c, where{}, started([8]int{}, 5, 6, 7))
	k.Clear()
	want(t, "the first one", j, c, where{true, true, true}, started([8]int{}, 5, 6, 7))
}

// P5, P7: the reason for which a Jam fails is Busy, and it is no other one's.
func TestReason(t *testing.T) {
	var all []byte
	for _, w := range places() {
		for _, timer := range numbers {
			j, _, _ := bring(t, w, 255)
			if why := j.Out(timer); why != api.None && !slices.Contains(all, why) {
				all = append(all, why)
			}
		}
	}
	if !slices.Equal(all, []byte{api.Busy}) {
		t.Error(all)
	}
}

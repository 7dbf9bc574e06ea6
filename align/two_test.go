package align_test

import (
	"fmt"
	"testing"

	"signalman/align"
	"signalman/api"
	"signalman/clock"
	"signalman/setup"
)

// side is one of two Aligns: its clock, the statuses that are under way to it, and when it is told what.
type side struct {
	a      *align.Align
	c      *clock.Clock
	comes  []byte
	begins int // at this tick
	hurry  int // at this tick an emergency; -1: none
	proved int // the tick at which it was proved; -1: it isn't
	tried  int // for how many ticks it had been Tried then
	fails  byte
}

// noStatus is what a side sends that is proved.
const noStatus = 255

func newSide(begins, hurry, delay int) *side {
	c := &clock.Clock{}
	s := &side{a: align.New(setup.Usual(false), c), c: c, begins: begins, hurry: hurry, proved: -1}
	for range delay {
		s.comes = append(s.comes, api.SIOS)
	}
	return s
}

// turn is one tick of a side: it is told to begin, hears, and its timers run.
func (s *side) turn(now int) {
	if now == s.hurry {
		s.a.Hurry(true)
	}
	if now == s.begins {
		s.a.Begin()
	}
	status := s.comes[0]
	s.comes = s.comes[1:]
	if s.fails == api.None && s.proved < 0 {
		s.fails = s.a.Heard(status)
	}
	if s.a.State == align.Tried {
		s.tried++
	} else if s.proved < 0 {
		s.tried = 0
	}
	for _, i := range s.c.Tick() {
		done, why := s.a.Out(i)
		if done {
			s.proved = now
		}
		if s.fails == api.None {
			s.fails = why
		}
	}
}

// sends is what it tells the other side: when it is proved, no status.
func (s *side) sends() byte {
	if s.proved >= 0 {
		return noStatus
	}
	return s.a.Sends()
}

// run joins two sides for so many ticks.
func run(x, y *side, ticks int) {
	for now := range ticks {
		x.turn(now)
		y.turn(now)
		toY, toX := x.sends(), y.sends()
		x.comes = append(x.comes, toX)
		y.comes = append(y.comes, toY)
	}
}

// P14.1, P14.2, P14.3, P5: two Aligns that hear, some ticks later, what the other one sends, with and without emergencies, and with one that begins later: both are proved, for as long as their hurry asks.
func TestTwo(t *testing.T) {
	for _, delay := range []int{1, 2, 10, 500, 1500} {
		for _, later := range []int{0, 1, 5, 100, 4000} {
			for _, hurries := range [][2]int{{-1, -1}, {0, -1}, {-1, 0}, {0, 0}} {
				two(t, delay, later, hurries)
			}
		}
	}
}

// two: one begins at once, the other one so much later; both are told of their emergencies first.
func two(t *testing.T, delay, later int, hurries [2]int) {
	t.Helper()
	what := fmt.Sprint("delay ", delay, ", later ", later, ", hurries ", hurries)
	l := setup.Usual(false).T
	x, y := newSide(0, hurries[0], delay), newSide(later, hurries[1], delay)
	run(x, y, 12000)
	want := l[4]
	if hurries != [2]int{-1, -1} {
		want = l[0]
	}
	for i, s := range []*side{x, y} {
		if s.fails != api.None || s.proved < 0 || s.a.State != align.Idle {
			t.Fatalf("%s: %d: it fails, %d; proved %d, State %d", what, i, s.fails, s.proved, s.a.State)
		}
		if s.tried != want {
			t.Fatalf("%s: %d: proved by %d ticks, want %d", what, i, s.tried, want)
		}
		if s.c.Least() != 0 {
			t.Fatalf("%s: %d: a timer runs", what, i)
		}
	}
}

// P14.2: an emergency that begins late: at each tick at which one side may be told of it both are proved.
func TestTwoLateEmergency(t *testing.T) {
	l := setup.Usual(false).T
	for _, delay := range []int{1, 7, 200} {
		for hurry := 0; hurry < 2000; hurry += 37 {
			x, y := newSide(0, hurry, delay), newSide(50, -1, delay)
			run(x, y, 12000)
			for i, s := range []*side{x, y} {
				if s.fails != api.None || s.proved < 0 {
					t.Fatalf("delay %d, hurry %d: %d: %d, proved %d", delay, hurry, i, s.fails, s.proved)
				}
			}
			start, slack := 50, 4*delay
			most := max(start+l[4], hurry+l[0]) + slack
			if hurry <= start {
				most = start + l[0] + slack
			}
			if first := min(x.proved, y.proved); first > most || first < start+l[0] {
				t.Fatalf("delay %d, hurry %d: proved %d, %d, want at most %d", delay, hurry, x.proved, y.proved, most)
			}
		}
	}
}

// P5: where the other one never begins, or falls silent, it isn't proved, but fails: NoAlign, at the end of T2, or T3.
func TestTwoAlone(t *testing.T) {
	l := setup.Usual(false).T
	x, y := newSide(0, -1, 3), newSide(1<<30, -1, 3)
	run(x, y, l[2]+10)
	if x.proved >= 0 || x.fails != api.NoAlign {
		t.Errorf("the other one doesn't begin: proved %d, %d", x.proved, x.fails)
	}
	x = newSide(0, -1, 1)
	for now := range l[3] + 10 {
		x.turn(now)
		x.comes = append(x.comes, api.SIO)
	}
	if x.proved >= 0 || x.fails != api.NoAlign {
		t.Errorf("the other one stays Apart: proved %d, %d", x.proved, x.fails)
	}
}

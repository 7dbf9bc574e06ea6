package state_test

import (
	"fmt"
	"slices"
	"testing"

	"signalman/api"
	"signalman/setup"
	"signalman/state"
)

// endsAt says words tick by tick, ahead of each tick those of its number, until the State is out: at which tick that was, and what was told last.
func endsAt(w *twin, most int, words func(tick int) string) (int, string) {
	for tick := range most {
		w.do(words(tick))
		if w.x.S == state.Out {
			return tick, w.do("told")
		}
		w.do("tick")
		if w.x.S == state.Out {
			return tick + 1, w.do("told")
		}
	}
	return most, w.do("told")
}

// P17.3, P17.5, P7: a message that isn't answered ends it T7 ticks behind the unit that it went in, however often units go meanwhile, and others come that answer nothing.
func TestNoAnswer(t *testing.T) {
	for _, cyclic := range both {
		for _, often := range []int{1, 2, 8, 100, 706} {
			for _, comes := range []string{"", "fill", "signal:127:5:abc", "link:9", "fill:127:127:"} {
				w := at(t, cyclic, service+" tick:50 send:abc tick:50 next")
				got, told := endsAt(w, 2000, func(tick int) string {
					if tick%often == 0 {
						return "next send:abc " + comes
					}
					return comes
				})
				if got != times[7] || told != "OutOfService 2" {
					t.Fatalf("cyclic %v, next each %d, %q: %d ticks, %s", cyclic, often, comes, got, told)
				}
				if w.x.W.Hold().Sent() == 0 {
					t.Fatal("the message waits no more")
				}
			}
		}
	}
}

// P17.4, P7: an answer at any tick up to the last one keeps it; behind it the time runs anew for what waits still, and for what is sent later.
func TestAnswered(t *testing.T) {
	for _, cyclic := range both {
		for _, after := range []int{0, 1, 350, 705, 706} {
			w := at(t, cyclic, service+" send:abc send:def next next")
			w.do(fmt.Sprint("tick:", after, " fill:0"))
			if got, told := endsAt(w, 2000, func(int) string { return "next" }); got != times[7] || told != "OutOfService 2" {
				t.Errorf("one answered at %d: %d ticks, %s", after, got, told)
			}
			w = at(t, cyclic, service+" send:abc send:def next next")
			w.do(fmt.Sprint("tick:", after, " fill:1"))
			if got, told := endsAt(w, 2000, func(int) string { return "next" }); got != 2000 || told != "" {
				t.Errorf("both answered at %d: %d ticks, %s", after, got, told)
			}
			w.do("send:ghi")
			if got, told := endsAt(w, 2000, func(int) string { return "next" }); got != times[7] || told != "OutOfService 2" {
				t.Errorf("one sent later: %d ticks, %s", got, told)
			}
		}
	}
}

// P17.3, P17.4, P7: the other side that is busy again and again ends it when T6 is over, and not later, with messages that wait, and without.
func TestBusyEnds(t *testing.T) {
	for _, cyclic := range both {
		for _, every := range []int{1, 7, 55, 100, 605, 5000} {
			for _, send := range []string{"", " send:abc send:def send:ghi next"} {
				w := at(t, cyclic, service+send+" sib")
				got, told := endsAt(w, 2000, func(tick int) string {
					if tick%every == 0 {
						return "sib next"
					}
					return "next"
				})
				if want := times[6]; got != want || told != "OutOfService 3" {
					t.Fatalf("cyclic %v, each %d,%s: %d ticks, %s", cyclic, every, send, got, told)
				}
			}
		}
	}
}

// P17.4, P7: while the other side says that it is busy, and messages wait, T7 begins anew each time; once it says so no more, and answers nothing, T7 ends it, if that is ahead of T6.
func TestBusyWaits(t *testing.T) {
	for _, cyclic := range both {
		s := set(cyclic)
		s.T[7] = 100
		w := newTwin(t, s)
		w.do(service + " send:abc next told")
		got, told := endsAt(w, 2000, func(tick int) string {
			if tick <= 300 && tick%60 == 0 {
				return "sib"
			}
			return "next"
		})
		if got != 400 || told != "JamOn, OutOfService 2" {
			t.Errorf("%d ticks, %s", got, told)
		}
	}
}

// P17.2, P17.3: while it is halted nothing is late: what waits does for as long as the outage is, and the time runs anew when it goes on.
func TestHaltedWaits(t *testing.T) {
	for _, cyclic := range both {
		w := at(t, cyclic, waits+" tick:600 outage tick:5000")
		if w.x.S != state.Halted {
			t.Fatal(state.Name(w.x.S))
		}
		w.do("back")
		if got, told := endsAt(w, 2000, func(int) string { return "next" }); got != times[7] || told != "OutOfService 2" {
			t.Errorf("%d ticks, %s", got, told)
		}
	}
}

// came is a unit that is under way, and when it comes; damaged or not.
type came struct {
	at      int
	u       api.Unit
	damaged bool
}

// side is one of two links: its level 3, and what is under way to it.
type side struct {
	x      *state.State
	line   []came
	send   [][]byte // messages for the other side
	sent   int
	got    [][]byte
	told   []byte // the kinds of what was told, but for messages
	why    byte
	resume bool // level 3 is to say that it goes on
}

// letters are so many messages, each another one, of many lengths.
func letters(who, many int) [][]byte {
	var all [][]byte
	for i := range many {
		all = append(all, append(fmt.Appendf(nil, "%d: %d ", who, i), make([]byte, i*7%60)...))
	}
	return all
}

// turn is one tick of a side: timers, what comes, level 3.
func (s *side) turn(now int) {
	s.x.Tick()
	for len(s.line) > 0 && s.line[0].at <= now {
		c := s.line[0]
		s.line = s.line[1:]
		if c.damaged {
			s.x.Damage()
		} else {
			s.x.Hear(c.u)
		}
	}
	for _, told := range s.x.Told() {
		switch told.Kind {
		case api.Message:
			s.got = append(s.got, told.P)
			continue
		case api.OutOfService:
			s.why = told.Why
		case api.TheyIn:
			s.resume = true
		}
		s.told = append(s.told, told.Kind)
	}
	if s.resume && s.x.Order(api.Order{Kind: api.Continue}) == api.OK {
		s.resume = false
	}
	for s.sent < len(s.send) && s.x.Order(api.Order{Kind: api.Send, P: s.send[s.sent]}) == api.OK {
		s.sent++
	}
}

// order is one that is given to a side at a tick.
type order struct{ at, side, kind int }

// trial is how two sides are joined, and what they are ordered.
type trial struct {
	cyclic bool
	delay  int
	lose   int // each so manieth unit is damaged, while they serve; 0: none
	many   int
	orders []order
}

// run joins two sides for so many ticks: each sends a unit when the one ahead has gone, and hears what the other one has sent the delay later.
func (r trial) run(ticks int) [2]*side {
	var l [2]*side
	for i := range l {
		l[i] = &side{x: state.New(setup.Usual(r.cyclic)), send: letters(i, r.many)}
		l[i].x.Order(api.Order{Kind: api.Start})
	}
	var free [2]int
	units := 0
	for now := range ticks {
		for _, o := range r.orders {
			if o.at == now {
				l[o.side].x.Order(api.Order{Kind: byte(o.kind)})
			}
		}
		// No more than some hundreds: that many don't end it.
		loses := r.lose > 0 && now > 1500 && now < 12000
		for i, s := range l {
			s.turn(now)
			if now < free[i] {
				continue
			}
			u := s.x.Next()
			units++
			// A unit goes for as many ticks as it has octets, with a flag.
			free[i] = now + 6 + len(u.Info)
			l[1-i].line = append(l[1-i].line, came{at: free[i] + r.delay, u: u, damaged: loses && units%r.lose == 0})
		}
	}
	return l
}

// check: both sides serve, and each was told all that the other one was handed, once, and in order.
func (r trial) check(t *testing.T, ticks int) [2]*side {
	t.Helper()
	l := r.run(ticks)
	for i, s := range l {
		if s.x.S != state.Service || s.why != api.None || s.x.Fails() != 0 {
			t.Fatalf("%+v: side %d: %s, why %d", r, i, state.Name(s.x.S), s.why)
		}
		if !slices.EqualFunc(s.got, l[1-i].send, func(a, b []byte) bool { return string(a) == string(b) }) {
			t.Fatalf("%+v: side %d: %d messages of %d", r, i, len(s.got), r.many)
		}
		if h := s.x.W.Hold(); s.sent != r.many || h.Sent() != 0 || h.Next() != 0 || s.x.C.On(7) {
			t.Fatalf("%+v: side %d: what was sent waits still", r, i)
		}
	}
	return l
}

// toldOf holds what a side was told, but for messages, against what it should have been.
func toldOf(t *testing.T, s *side, want ...byte) {
	t.Helper()
	if !slices.Equal(s.told, want) {
		t.Errorf("told %v, want %v", s.told, want)
	}
}

// P3, P17.1 to P17.5: two States that hear, some ticks later, what the other one sends: both come to serve, and all messages come, each once, in order; with units that are damaged, too.
func TestTwo(t *testing.T) {
	for _, cyclic := range both {
		for _, delay := range []int{0, 1, 20, 400} {
			for _, lose := range []int{0, 300, 70} {
				r := trial{cyclic: cyclic, delay: delay, lose: lose, many: 60}
				for _, s := range r.check(t, 60000) {
					toldOf(t, s, api.InService)
				}
			}
		}
	}
}

// P3, P5: one that begins with an outage is proved, too, and serves when its processor is back.
func TestTwoNotReady(t *testing.T) {
	for _, cyclic := range both {
		r := trial{cyclic: cyclic, delay: 20, many: 40, orders: []order{{0, 0, int(api.Outage)}, {9000, 0, int(api.Back)}}}
		l := r.check(t, 60000)
		toldOf(t, l[0], api.InService)
		toldOf(t, l[1], api.InService, api.TheyOut, api.TheyIn)
	}
}

// P3: with an outage between, of one side and of both, one behind the other and at once.
func TestTwoOutage(t *testing.T) {
	out, back := int(api.Outage), int(api.Back)
	for _, cyclic := range both {
		for _, delay := range []int{1, 20, 400} {
			for at := 1500; at < 2500; at += 61 {
				r := trial{cyclic: cyclic, delay: delay, many: 60, orders: []order{{at, 0, out}, {at + 9000, 0, back}}}
				l := r.check(t, 60000)
				toldOf(t, l[0], api.InService)
				if len(l[1].told) > 1 {
					toldOf(t, l[1], api.InService, api.TheyOut, api.TheyIn)
				}
				r.orders = append(r.orders, order{at + 500, 1, out}, order{at + 5000, 1, back})
				r.check(t, 60000)
				r.orders = append(r.orders[:2], order{at, 1, out}, order{at + 9000, 1, back})
				r.check(t, 60000)
			}
		}
	}
}

// P3, P7: with a jam between, of one side and of both, that is over ahead of T6.
func TestTwoJam(t *testing.T) {
	in, out := int(api.JamIn), int(api.JamOut)
	for _, cyclic := range both {
		for _, delay := range []int{1, 20, 400} {
			for at := 1500; at < 2800; at += 61 {
				r := trial{cyclic: cyclic, delay: delay, many: 120, orders: []order{{at, 0, in}, {at + 2500, 0, out}}}
				r.check(t, 60000)
				r.orders = append(r.orders, order{at + 500, 1, in}, order{at + 1700, 1, out})
				l := r.check(t, 60000)
				// By 2500 both serve.
				if at >= 2500 && (!slices.Contains(l[0].told, api.JamOn) || !slices.Contains(l[1].told, api.JamOff)) {
					t.Fatalf("%+v: nobody was busy: %v, %v", r, l[0].told, l[1].told)
				}
			}
		}
	}
}

// P3: with an outage and a jam between, one behind the other and one in the other.
func TestTwoOutageJam(t *testing.T) {
	for _, cyclic := range both {
		for _, lose := range []int{0, 300} {
			for at := 1800; at < 2800; at += 97 {
				r := trial{cyclic: cyclic, delay: 20, lose: lose, many: 120, orders: []order{
					{at, 0, int(api.JamIn)}, {at + 1500, 0, int(api.JamOut)}, {at + 2000, 1, int(api.Outage)}, {at + 6000, 1, int(api.Back)},
					{at + 3000, 0, int(api.JamIn)}, {at + 7000, 0, int(api.JamOut)}, {at + 8000, 1, int(api.JamIn)}, {at + 8500, 1, int(api.Outage)}, {at + 9500, 1, int(api.Back)},
				}}
				l := r.check(t, 80000)
				for _, kind := range []byte{api.TheyOut, api.TheyIn, api.JamOn, api.JamOff} {
					if !slices.Contains(l[0].told, kind) && !slices.Contains(l[1].told, kind) {
						t.Fatalf("%+v: %d wasn't told: %v, %v", r, kind, l[0].told, l[1].told)
					}
				}
			}
		}
	}
}

// P7: a jam that isn't over when T6 is ends it: Busy, of the side that isn't busy; the other one is told that its link was given up.
func TestTwoJamEnds(t *testing.T) {
	for _, cyclic := range both {
		r := trial{cyclic: cyclic, delay: 20, many: 2000, orders: []order{{1500, 0, int(api.JamIn)}}}
		l := r.run(20000)
		if l[0].why != api.TheirStop || l[1].why != api.Busy {
			t.Errorf("cyclic %v: why %d, %d", cyclic, l[0].why, l[1].why)
		}
		for i, s := range l {
			if !slices.EqualFunc(s.got, l[1-i].send[:len(s.got)], func(a, b []byte) bool { return string(a) == string(b) }) {
				t.Errorf("cyclic %v, side %d: another message", cyclic, i)
			}
		}
	}
}

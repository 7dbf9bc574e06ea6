package fetch_test

import (
	"fmt"
	"math/rand"
	"testing"

	"signalman/api"
	"signalman/fetch"
	"signalman/state"
)

// coming is a unit that is under way, and when it comes; damaged or not.
type coming struct {
	at      int
	u       api.Unit
	damaged bool
}

// side is one of two links, what was handed to it, what it was told, and what is under way to it.
type side struct {
	x       *state.State
	line    []coming
	handed  [][]byte
	came    [][]byte
	free    int // at which tick its next unit is sent
	waiting int // messages that level 3 still has
}

// trial is how two sides are joined, and when they are stopped.
type trial struct {
	cyclic bool
	delay  int
	harm   int    // each so manieth unit is damaged or lost, by chance; 0: none
	many   int    // so many messages are handed to each
	at     int    // at which tick side 0 is told the words
	words  string // none, or some
	stop   int    // at which tick the first one is stopped
	first  int    // which side that is
	later  int    // how many ticks behind the other one is
	seed   int64
}

// turn is one tick of a side.
func (s *side) turn(now int) {
	s.x.Tick()
	for len(s.line) > 0 && s.line[0].at <= now {
		c := s.line[0]
		s.line = s.line[1:]
		if c.damaged {
			s.x.Damage()
		} else {
			s.x.Hear(c.u)
		}
	}
	for _, told := range s.x.Told() {
		if told.Kind == api.Message {
			s.came = append(s.came, told.P)
		}
	}
	for s.waiting > 0 {
		p := fmt.Appendf(message(len(s.handed)), "%*d", len(s.handed)*7%20, 0)
		if s.x.Order(api.Order{Kind: api.Send, P: p}) != api.OK {
			return
		}
		s.handed = append(s.handed, p)
		s.waiting--
	}
}

// send: a unit goes, when the one ahead has gone.
func (r trial) send(s, to *side, now int, chance *rand.Rand) {
	if now < s.free {
		return
	}
	u := s.x.Next()
	s.free = now + 6 + len(u.Info)
	harmed := r.harm > 0 && chance.Intn(r.harm) == 0
	if harmed && chance.Intn(2) == 0 {
		return
	}
	to.line = append(to.line, coming{at: s.free + r.delay, u: u, damaged: harmed})
}

// run joins two sides until both are out of service.
func (r trial) run() [2]*side {
	chance := rand.New(rand.NewSource(r.seed))
	var l [2]*side
	for i := range l {
		s := set(r.cyclic)
		// With so few that wait for an answer a cyclic link comes to send what was lost again soon.
		s.N1 = 8
		l[i] = &side{x: state.New(s), waiting: r.many}
		do(l[i].x, "start")
	}
	for now := range r.stop + r.later + 1 {
		if now == r.at {
			do(l[0].x, r.words)
		}
		if now == r.stop {
			do(l[r.first].x, "stop")
		}
		if now == r.stop+r.later {
			do(l[1-r.first].x, "stop")
		}
		for i, s := range l {
			s.turn(now)
			r.send(s, l[1-i], now, chance)
		}
	}
	return l
}

// back counts messages that were fetched back.
func (r trial) back(t *testing.T) int {
	t.Helper()
	l := r.run()
	of0, of1, e := fetch.Change(l[0].x, l[1].x)
	if e != api.OK {
		t.Fatalf("%+v: %d", r, e)
	}
	for i, list := range [][][]byte{of0, of1} {
		if got := append(l[1-i].came[:len(l[1-i].came):len(l[1-i].came)], list...); !same(got, l[i].handed) {
			t.Fatalf("%+v: of side %d: told %q, fetched back %q, handed in %q", r, i, l[1-i].came, list, l[i].handed)
		}
	}
	wantChange(t, "turned", l[1].x, l[0].x, of1, of0, api.OK)
	n, _ := fetch.BSNT(l[1].x)
	wantList(t, "by hand", l[0].x, n, of0, api.OK)
	return len(of0) + len(of1)
}

// P18.1, P3: two links that hear, some ticks later, what the other one sends, and are stopped at any tick: what one was handed is what the other one was told, and then what is fetched back, each once, in order.
func TestTwo(t *testing.T) {
	for _, cyclic := range both {
		for _, delay := range []int{0, 1, 20, 60} {
			for _, harm := range []int{0, 30, 8} {
				back := 0
				for stop := 0; stop < 1200; stop += 3 {
					r := trial{cyclic: cyclic, delay: delay, harm: harm, many: 12, stop: stop, first: stop / 3 % 2, later: stop * 7 % 100, seed: int64(stop)}
					back += r.back(t)
				}
				if back < 100 {
					t.Errorf("cyclic %v, delay %d, harm %d: %d fetched back", cyclic, delay, harm, back)
				}
			}
		}
	}
}

// P18.1, P3: stopped when the numbers have gone round.
func TestTwoRound(t *testing.T) {
	for _, cyclic := range both {
		for _, harm := range []int{0, 50} {
			back, round := 0, 0
			for seed := range int64(60) {
				r := trial{cyclic: cyclic, delay: int(seed % 40), harm: harm, many: 380, stop: 4000 + int(seed)*53, first: int(seed % 2), later: int(seed) * 3, seed: seed}
				back += r.back(t)
				if l := r.run(); len(l[0].came) > 128 {
					round++
				}
			}
			if back < 100 || round < 20 {
				t.Errorf("cyclic %v, harm %d: %d fetched back, %d went round", cyclic, harm, back, round)
			}
		}
	}
}

// P18.1, P4: with what wasn't sent thrown away, an outage and a jam ahead of the stop: what one was told, and what is fetched back, is a part of what the other one was handed, in order, each once.
func TestTwoOutage(t *testing.T) {
	words := []string{"outage", "jamin", "flush", "outage flush", "sipo", "jamin outage"}
	for _, cyclic := range both {
		for at := 100; at < 500; at += 7 {
			r := trial{cyclic: cyclic, delay: 20, many: 30, at: at, words: words[at/7%len(words)], stop: at + 40, first: at % 2, later: at % 60, seed: int64(at)}
			l := r.run()
			of0, _, e := fetch.Change(l[0].x, l[1].x)
			if e != api.OK {
				t.Fatalf("%+v: %d", r, e)
			}
			handed := l[0].handed
			for _, p := range append(l[1].came, of0...) {
				for len(handed) > 0 && string(handed[0]) != string(p) {
					handed = handed[1:]
				}
				if len(handed) == 0 {
					t.Fatalf("%+v: told %q, fetched back %q, handed in %q", r, l[1].came, of0, l[0].handed)
				}
				handed = handed[1:]
			}
		}
	}
}

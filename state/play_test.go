package state_test

import (
	"fmt"
	"math/rand"
	"strings"
	"testing"

	"signalman/state"
)

// player says words by chance to a State and its model, such that it comes to each state often, and out of it.
type player struct {
	*twin
	r     *rand.Rand
	serve int // how much it is bent on serving: beyond 100 what ends the link is rare
}

// pick is one of the words, by chance.
func (p *player) pick(words ...string) string { return words[p.r.Intn(len(words))] }

// turned is which indicators are turned, such that u's are right, or not.
func (p *player) turned(right bool) string {
	u, text := p.m.w.Fill(), ""
	if u.FIB != (right || p.r.Intn(2) == 0) {
		text += "B"
	}
	if u.BIB != (right || p.r.Intn(2) == 0) {
		text += "F"
	}
	return text
}

// unit is a Fill or a Signal that this side may expect: it answers some of what waits, and has the next message, or none.
func (p *player) unit() string {
	h, taken := p.m.w.Hold(), int(p.m.w.Taken())
	bsn := (int(h.First()) + 127 + p.r.Intn(h.Sent()+1)) % 128
	switch p.r.Intn(8) {
	case 0, 1, 2, 3:
		return fmt.Sprintf("signal:%d:%d:m%d:%s", bsn, (taken+1)%128, p.r.Intn(1000), p.turned(true))
	case 4:
		return fmt.Sprintf("signal:%d:%d:m%d:%s", bsn, p.r.Intn(128), p.r.Intn(1000), p.turned(true))
	}
	return fmt.Sprintf("fill:%d:%d:%s", bsn, taken, p.turned(true))
}

// oddUnit is one whose numbers, or indicators, may be anything.
func (p *player) oddUnit() string {
	switch p.r.Intn(3) {
	case 0:
		return fmt.Sprintf("kind:%d:%d:%d:any", p.r.Intn(256), p.r.Intn(256), p.r.Intn(256)) // a kind of 1 is a Link
	case 1:
		return fmt.Sprintf("signal:%d:%d:odd:%s", p.r.Intn(256), p.r.Intn(256), p.turned(false))
	}
	return fmt.Sprintf("fill:%d:%d:%s", p.r.Intn(128), p.r.Intn(128), p.turned(false))
}

// any is any word there is.
func (p *player) any() string {
	switch p.r.Intn(8) {
	case 0:
		return fmt.Sprint("order:", p.r.Intn(20))
	case 1:
		return fmt.Sprint("link:", p.r.Intn(9))
	case 2:
		return p.oddUnit()
	case 3:
		return fmt.Sprint("fail:", p.r.Intn(12))
	case 4:
		return fmt.Sprint("damage:", p.r.Intn(40)+1)
	case 5:
		return fmt.Sprint("tick:", p.r.Intn(1200)+1)
	case 6:
		return fmt.Sprint("send:#", p.r.Intn(300))
	}
	return p.pick("flush", "continue", "hurry", "calm", "stop", "start")
}

// word is the next one.
func (p *player) word() string {
	if p.r.Intn(40+p.serve) == 0 {
		return p.any()
	}
	if p.r.Intn(5) == 0 {
		return p.pick("told", "next", "next:3", "tick", "tick:7", "damage")
	}
	switch p.m.state {
	case "out":
		return p.pick("start", "start", "outage", "back", "hurry", "calm", "sin", "fill", "tick:30", "continue")
	case "aligning":
		return p.pick("sio", "sin", "sin", "sie", "tick:10", "tick:40", "tick:44", "damage:2", "outage", "back", "fill")
	case "ready", "notready":
		return p.pick("sin", "sib", "outage", "back", "sipo", "fill", "tick:30", "tick:600", p.unit())
	}
	return p.used()
}

// used is a word to one that serves, or is halted.
func (p *player) used() string {
	switch p.r.Intn(12) {
	case 0:
		return p.pick("outage", "back", "back", "sipo", "continue", "continue", "continue")
	case 1:
		return p.pick("jamin", "jamout", "jamout", "sib", "sib")
	case 2:
		return fmt.Sprint("tick:", p.r.Intn(60)+1)
	case 3, 4:
		return fmt.Sprintf("send:m%03d", p.r.Intn(1000))
	case 5, 6, 7:
		return p.pick("next", "next:2", "next:5")
	case 8:
		if p.r.Intn(10) == 0 {
			return p.oddUnit()
		}
	case 9:
		return p.pick("link:6", "link:200", "flush", "tick:3")
	}
	return p.unit()
}

// holds are what is always so, by the words.
func (p *player) holds() {
	s := look(p.x)
	serves, halted := s.state == "service", s.state == "halted"
	out := s.o.Own || s.o.Their || s.o.Wait
	for what, ok := range map[string]bool{
		"one that serves has no outage":                            !serves || !out,
		"one that is halted has an outage":                         !halted || out,
		"one that isn't ready is out, and one that is ready isn't": (s.state != "notready" || s.o.Own) && (s.state != "ready" || !out),
		"what waits in service is waited for":                      !serves || s.way.sent == 0 || s.left[7] != 0,
		"what is waited for waits in service":                      s.left[7] == 0 || serves && s.way.sent > 0,
		"the other side isn't busy for longer than its timer":      s.theyJam == (s.left[6] != 0) && (!s.theyJam || serves),
		"this side says again that it is busy":                     s.ownJam == (s.left[5] != 0) && (!s.ownJam || serves || halted),
		"one that is out has no timer":                             s.state != "out" || s.left == [8]int{},
		"one that is proved waits for the other one":               (s.state == "ready" || s.state == "notready") == (s.left[1] != 0),
		"no more waits than may":                                   s.way.sent+s.way.next <= p.s.Hold && s.way.octets <= p.s.Octets,
		"too many that aren't right end it":                        s.wrong < 64,
	} {
		if !ok {
			p.t.Fatalf("%s: not so: %s: %+v", p.what(), what, s)
		}
	}
}

// P17.1 to P17.5, P1, P2, P5, P7: long plays by chance, by both methods: all that is answered, told and sent, the state, the timers, what waits. Each state, each thing that is told and each reason comes in them.
func TestPlay(t *testing.T) {
	many := map[string]int{}
	for _, cyclic := range both {
		for seed := range int64(30) {
			p := &player{twin: newTwin(t, set(cyclic)), r: rand.New(rand.NewSource(seed)), serve: int(seed%3) * 400}
			for range 3000 {
				word := p.word()
				answer := p.do(word)
				p.holds()
				many[state.Name(p.x.S)]++
				if word == "told" {
					for _, text := range strings.Split(answer, ", ") {
						text, _, _ = strings.Cut(text, " m")
						many[text]++
					}
				}
			}
		}
	}
	for _, what := range []string{"out", "aligning", "ready", "notready", "service", "halted", "InService", "Message", "TheyOut", "TheyIn", "JamOn", "JamOff"} {
		if many[what] < 100 {
			t.Errorf("%s: %d times", what, many[what])
		}
	}
	for why := range 11 {
		if what := fmt.Sprint("OutOfService ", why); many[what] < 2 {
			t.Errorf("%s: %d times", what, many[what])
		}
	}
}

// P2: a State that is told the same answers the same, whatever others are told between.
func TestPlayAgain(t *testing.T) {
	for _, cyclic := range both {
		p := &player{twin: newTwin(t, set(cyclic)), r: rand.New(rand.NewSource(77)), serve: 300}
		first, second, other := state.New(p.s), state.New(p.s), state.New(p.s)
		for range 3000 {
			word := p.word()
			p.do(word)
			plain, often := word, 1
			if parts := strings.Split(word, ":"); parts[0] == "tick" || parts[0] == "damage" || parts[0] == "next" {
				plain, often = parts[0], number(parts, 1, 1)
			}
			for range often {
				one := say(first, plain)
				say(other, p.pick("start", "sin", "tick", "fill", "next", "send:abc"))
				if two := say(second, plain); one != two {
					t.Fatalf("%s: %q, and %q", word, one, two)
				}
			}
			if a, b := look(first), look(second); a != b {
				t.Fatalf("%s: %+v, and %+v", word, a, b)
			}
		}
	}
}

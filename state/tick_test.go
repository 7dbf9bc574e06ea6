package state_test

import (
	"fmt"
	"testing"

	"signalman/state"
)

// P17.3: each timer that runs out in each state, where the link itself has started it.
func TestTick(t *testing.T) {
	try(t, []row{
		// 2 and 3 in Aligning: NoAlign. One tick ahead nothing.
		{apart + " tick:200", "tick", "", "aligning", "", "2:1"},
		{apart + " tick:201", "tick", "", "out", "OutOfService 7", ""},
		{near + " tick:301", "tick", "", "aligning", "", "3:1"},
		{near + " tick:302", "tick", "", "out", "OutOfService 7", ""},
		{tried + " tick:20 sio tick:302", "tick", "", "out", "OutOfService 7", ""},
		// 0 and 4 in Aligning: Ready; NotReady with Own; timer 1 starts.
		{tried + " tick:42", "tick", "", "aligning", "", "4:1"},
		{tried + " tick:43", "tick", "", "ready", "", "1:1001"},
		{"start sin sie tick:10", "tick", "", "ready", "", "1:1001"},
		{"hurry " + tried + " tick:10", "tick", "", "ready", "", "1:1001"},
		{"outage " + tried + " tick:43", "tick", "", "notready", "", "1:1001"},
		{"outage hurry " + tried + " tick:10", "tick", "", "notready", "", "1:1001"},
		{tried + " tick:43 outage", "tick", "", "notready", "", "1:1001"},
		{"outage " + tried + " tick:43 back", "tick", "", "ready", "", "1:1001"},
		{tried + " damage:4 tick:43", "tick", "", "ready", "", "1:1001"},
		// 1 in Ready and NotReady: NotReady.
		{ready + " tick:997", "tick", "", "out", "OutOfService 6", ""},
		{ready + " tick:996", "tick", "", "ready", "", "1:1"},
		{notReady + " tick:997", "tick", "", "out", "OutOfService 6", ""},
		{notReady + " tick:996", "tick", "", "notready", "", "1:1"},
		{ready + " outage tick:500 back tick:497", "tick", "", "out", "OutOfService 6", ""},
		// 7 in Service: NoAnswer.
		{waits + " tick:702", "tick", "", "service", "", "7:1"},
		{waits + " tick:703", "tick", "", "out", "OutOfService 2", ""},
		// 5 and 6: the Jam's.
		{service + " jamin next tick:54", "tick", "", "service", "", "5:55"},
		{service + " outage jamin tick:54", "tick", "", "halted", "", "5:55"},
		{service + " sib tick:604", "tick", "", "service", "", "6:1"},
		{service + " sib tick:605", "tick", "", "out", "OutOfService 3", ""},
		{waits + " sib tick:605", "tick", "", "out", "OutOfService 3", ""},
		// No timer runs.
		{"", "tick", "", "out", "", ""},
		{service, "tick", "", "service", "", ""},
		{service + " outage", "tick", "", "halted", "", ""},
	})
}

// P17.3: each timer that runs out at each place, whoever started it: it fails where the words say so, or is proved, and else it is in the state that it was in.
func TestTickEach(t *testing.T) {
	each(t, func(w *twin, was seen) {
		place := w.what()
		for timer := range 8 {
			w := newTwin(t, w.s)
			w.do(place + fmt.Sprintf(" set:%d:1 tick", timer))
			s, told := was.state, ""
			switch {
			case was.how == "apart" && timer == 2, was.how == "near" && timer == 3:
				s, told = "out", "OutOfService 7"
			case was.how == "tried" && (timer == 0 || timer == 4):
				s = map[bool]string{false: "ready", true: "notready"}[was.o.Own]
			case (s == "ready" || s == "notready") && timer == 1:
				s, told = "out", "OutOfService 6"
			case s == "service" && timer == 7:
				s, told = "out", "OutOfService 2"
			case was.theyJam && timer == 6:
				s, told = "out", "OutOfService 3"
			}
			if got := state.Name(w.x.S); got != s || w.do("told") != told {
				t.Fatalf("%s: %s, want %s, %s", w.what(), got, s, told)
			}
		}
	})
}

// P17.3: any set of timers that run out in the same tick, at each place, against the model; and the tick behind it.
func TestTickSets(t *testing.T) {
	for _, place := range places {
		for mask := range 256 {
			// Both methods have the same timers, so that by turns is enough.
			w := newTwin(t, set(mask%2 == 1))
			w.do(place + " told")
			for i := range 8 {
				if mask>>i&1 == 1 {
					w.do(fmt.Sprint("set:", i, ":1"))
				}
			}
			w.do("tick told tick told next")
		}
	}
}

// P17.3: of several timers that run out in the same tick the first one that ends it does, and of the others nothing happens.
func TestTickOrder(t *testing.T) {
	try(t, []row{
		{waits + " sib set:6:1 set:7:1", "tick", "", "out", "OutOfService 3", ""},
		{waits + " jamin next sib set:5:1 set:6:1 set:7:1", "tick", "", "out", "OutOfService 3", ""},
		{waits + " jamin next set:5:1 set:7:1", "tick", "", "out", "OutOfService 2", ""},
		{ready + " set:1:1 set:5:1 set:6:1 set:7:1", "tick", "", "out", "OutOfService 6", ""},
		{apart + " set:0:1 set:2:1 set:3:1 set:4:1", "tick", "", "out", "OutOfService 7", ""},
		{tried + " set:0:1 set:1:1", "tick", "", "out", "OutOfService 6", ""},
		{tried + " set:0:1 set:4:1", "tick", "", "ready", "", "1:1001"},
		{tried + " set:3:1 set:4:1", "tick", "", "ready", "", "1:1001"},
		{tried + " set:4:1 set:5:1 set:6:1 set:7:1", "tick", "", "ready", "", "1:1001"},
		{service + " sib set:5:1 set:6:1", "tick", "", "out", "OutOfService 3", ""},
		{tried + " set:1:1 set:4:1", "tick", "", "ready", "", "1:1001"},
	})
}

// P17.3: the status that timer 5 makes due is sent, once, in service alone.
func TestTickJam(t *testing.T) {
	try(t, []row{
		{service + " jamin next tick:55", "next", "SIB 127+ 127+", "service", "", "5:55"},
		{service + " jamin next tick:55 next", "next", "Fill 127+ 127+", "service", "", "5:55"},
		{service + " jamin next tick:54", "next", "Fill 127+ 127+", "service", "", "5:1"},
		{service + " jamin tick:110", "next", "SIB 127+ 127+", "service", "", "5:55"},
		{service + " jamin tick:110 next", "next", "Fill 127+ 127+", "service", "", "5:55"},
		{service + " outage jamin tick:55", "next", "SIPO 127+ 127+", "halted", "", "5:55"},
	})
}

// P17.3: a State that is out stays so, and tells nothing, whatever runs out, for as long as one looks.
func TestTickOut(t *testing.T) {
	for _, cyclic := range both {
		for _, place := range []string{"", "outage", waits + " jamin sib stop"} {
			w := at(t, cyclic, place)
			for i := range 8 {
				w.do(fmt.Sprint("set:", i, ":", i+1))
			}
			fails := w.x.Fails()
			w.do("tick:2000")
			if told := w.do("told"); told != "" || w.x.S != state.Out || w.x.Fails() != fails {
				t.Errorf("%s: %q", w.what(), told)
			}
		}
	}
}

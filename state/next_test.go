package state_test

import (
	"testing"

	"signalman/state"
)

// P17.5: Next in each state.
func TestNext(t *testing.T) {
	try(t, []row{
		// Out, Aligning: a Link of what the Align sends.
		{"", "next", "SIOS 127+ 127+", "out", "", ""},
		{"outage hurry", "next", "SIOS 127+ 127+", "out", "", ""},
		{waits + " stop", "next", "SIOS 127+ 1+", "out", "", ""},
		{service + " signal signal:127:1:abc stop", "next", "SIOS 1+ 127+", "out", "", ""},
		{apart, "next", "SIO 127+ 127+", "aligning", "", "2:202"},
		{"hurry " + apart, "next", "SIO 127+ 127+", "aligning", "", "2:202"},
		{"outage " + apart, "next", "SIO 127+ 127+", "aligning", "", "2:202"},
		{near, "next", "SIN 127+ 127+", "aligning", "", "3:303"},
		{"hurry " + near, "next", "SIE 127+ 127+", "aligning", "", "3:303"},
		{"start sie", "next", "SIN 127+ 127+", "aligning", "", "3:303"},
		{tried, "next", "SIN 127+ 127+", "aligning", "", "4:44"},
		{tried + " hurry", "next", "SIE 127+ 127+", "aligning", "", "0:11"},
		{"start sin sie", "next", "SIN 127+ 127+", "aligning", "", "0:11"},
		// Ready: Fill. NotReady: SIPO.
		{ready, "next", "Fill 127+ 127+", "ready", "", "1:998"},
		{notReady, "next", "SIPO 127+ 127+", "notready", "", "1:998"},
		{ready + " outage", "next", "SIPO 127+ 127+", "notready", "", "1:998"},
		{notReady + " back", "next", "Fill 127+ 127+", "ready", "", "1:998"},
		// Halted: with Own SIPO, else Fill.
		{waits + " outage", "next", "SIPO 127+ 1+", "halted", "", ""},
		{waits + " sipo", "next", "Fill 127+ 1+", "halted", "", ""},
		{waits + " sipo fill", "next", "Fill 127+ 1+", "halted", "", ""},
		{waits + " sipo outage", "next", "SIPO 127+ 1+", "halted", "", ""},
		{waits + " sipo outage back", "next", "Fill 127+ 1+", "halted", "", ""},
		{waits + " outage jamin", "next", "SIPO 127+ 1+", "halted", "", "5:55"},
		{waits + " sipo jamin", "next", "Fill 127+ 1+", "halted", "", "5:55"},
		// Service: the Way's; it tells what was taken.
		{service, "next", "Fill 127+ 127+", "service", "", ""},
		{service + " signal", "next", "Fill 0+ 127+", "service", "", ""},
		{waits, "next", "Signal three 127+ 2+", "service", "", "7:704"},
		{service + " send:abc", "next", "Signal abc 127+ 0+", "service", "", "7:707"},
		{service + " send:abc signal", "next", "Signal abc 0+ 0+", "service", "", "7:707"},
	})
	basicOnly(t, []row{
		{waits + " next", "next", "Fill 127+ 2+", "service", "", "7:704"},
		{waits + " fill:0:127:B", "next", "Signal two 127+ 1-", "service", "", "7:707"},
		{waits + " fill:0:127:B outage", "next", "SIPO 127+ 1-", "halted", "", ""},
	})
}

// P17.5: Next in service: SIB, if it is due: once, and again each T5 ticks; timer 7 is left as it is then.
func TestNextBusy(t *testing.T) {
	try(t, []row{
		{service + " jamin", "next", "SIB 127+ 127+", "service", "", "5:55"},
		{service + " jamin next", "next", "Fill 127+ 127+", "service", "", "5:55"},
		{service + " jamin send:abc", "next", "SIB 127+ 127+", "service", "", "5:55"},
		{service + " jamin send:abc next", "next", "Signal abc 127+ 0+", "service", "", "5:55 7:707"},
		{waits + " jamin", "next", "SIB 127+ 1+", "service", "", "5:55 7:704"},
		{waits + " jamin set:7:9", "next", "SIB 127+ 1+", "service", "", "5:55 7:9"},
		{service + " jamin set:7:9", "next", "SIB 127+ 127+", "service", "", "5:55 7:9"},
	})
	for _, cyclic := range both {
		w := at(t, cyclic, service+" jamin")
		for tick := range times[5]*5 + 1 {
			got := w.do("next")
			if (got == "SIB 127+ 127+") != (tick%times[5] == 0) {
				t.Fatalf("tick %d: %s", tick, got)
			}
			w.do("tick")
		}
	}
}

// P17.5: timer 7 starts with the first unit behind which messages wait, not anew with each; it stops when none does.
func TestNextTimer(t *testing.T) {
	for _, cyclic := range both {
		w := at(t, cyclic, service+" send:abc")
		if w.x.C.On(7) {
			t.Fatal("it starts ahead of the unit")
		}
		for tick := range 700 {
			w.do("next")
			if left := w.x.C.Left(7); left != 707-tick {
				t.Fatalf("tick %d: %d left", tick, left)
			}
			if tick%50 == 0 {
				w.do("send:more")
			}
			w.do("tick")
		}
		w = at(t, cyclic, service+" set:7:9")
		if w.do("next"); w.x.C.On(7) {
			t.Error("it runs while none waits")
		}
		w = at(t, cyclic, service+" send:abc set:7:9")
		if w.do("next"); w.x.C.Left(7) != 9 {
			t.Error("it starts anew")
		}
		for _, place := range []string{"", apart, ready, notReady, service + " outage", service + " sipo"} {
			w := at(t, cyclic, place+" set:7:9")
			if w.do("next"); w.x.C.Left(7) != 9 {
				t.Errorf("%s: timer 7: %d", state.Name(w.x.S), w.x.C.Left(7))
			}
		}
	}
}

// P17.5: Next again and again at each place, with ticks between and without, against the model.
func TestNextAll(t *testing.T) {
	each(t, func(w *twin, was seen) {
		w.do("next:20 told send:abc next:20 tick next:3 tick:50 next:3 told")
	})
}

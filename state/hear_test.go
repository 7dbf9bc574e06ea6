package state_test

import (
	"fmt"
	"strings"
	"testing"

	"signalman/api"
	"signalman/state"
)

// P17.4: what comes is counted first: in Aligning by the Align, else by the Leak; of one that is out nothing.
func TestDamage(t *testing.T) {
	try(t, []row{
		{"", "damage:200", "", "out", "", ""},
		{"start stop", "damage:200", "", "out", "", ""},
		{apart, "damage:200", "", "aligning", "", "2:202"},
		{near, "damage:200", "", "aligning", "", "3:303"},
		{tried + " tick:3", "damage:3", "", "aligning", "", "4:41"},
		{tried + " tick:3", "damage:4", "", "aligning", "", "4:44"},
		{tried + " tick:3", "damage:19", "", "aligning", "", "4:44"},
		{tried + " tick:3", "damage:20", "", "out", "OutOfService 5", ""},
		{"start sin sie tick:3", "damage", "", "aligning", "", "0:11"},
		{"start sin sie tick:3", "damage:4", "", "aligning", "", "0:11"},
		{"start sin sie tick:3", "damage:5", "", "out", "OutOfService 5", ""},
		{tried + " damage:19 tick:3 sio sin", "damage:19", "", "aligning", "", "4:44"},
		{ready, "damage:63", "", "ready", "", "1:998"},
		{ready, "damage:64", "", "out", "OutOfService 1", ""},
		{ready, "damage:100", "", "out", "OutOfService 1", ""},
		{notReady, "damage:63", "", "notready", "", "1:998"},
		{notReady, "damage:64", "", "out", "OutOfService 1", ""},
		{waits, "damage:63", "", "service", "", "7:704"},
		{waits, "damage:64", "", "out", "OutOfService 1", ""},
		{waits + " outage", "damage:63", "", "halted", "", ""},
		{waits + " outage", "damage:64", "", "out", "OutOfService 1", ""},
		{waits + " sipo", "damage:64", "", "out", "OutOfService 1", ""},
		// What was wrong in Ready counts on in service; what was while it was proved doesn't.
		{ready + " damage:63 fill", "damage", "", "out", "OutOfService 1", ""},
		{tried + " damage:3 tick:44 fill", "damage:63", "", "service", "", ""},
	})
}

// P17.4: a unit that is right is counted, too: for 256 of them one that wasn't right is forgotten, of whatever kind they are, and in each state.
func TestHearCounts(t *testing.T) {
	for _, cyclic := range both {
		for _, place := range []string{ready, notReady, service, service + " outage", service + " sipo"} {
			for _, word := range []string{"link:6", "sib", "fill", "sipo", "signal", "kind:9"} {
				w := at(t, cyclic, place+" damage:63")
				for range 193 {
					if w.do(word); w.x.Wrong() != 63 {
						t.Fatalf("%s: %d", w.what(), w.x.Wrong())
					}
				}
				// 62 came behind the first one that wasn't right.
				if w.do(word); w.x.Wrong() != 62 {
					t.Fatalf("%s: %d", w.what(), w.x.Wrong())
				}
				if w.do("damage"); w.x.Wrong() != 63 || w.x.S == state.Out {
					t.Fatalf("%s: %d", w.what(), w.x.Wrong())
				}
				if w.do("damage"); w.x.S != state.Out {
					t.Fatalf("%s: %d", w.what(), w.x.Wrong())
				}
			}
		}
	}
}

// P8: 64 that follow one another end it, whatever came ahead.
func TestMany(t *testing.T) {
	each(t, func(w *twin, was seen) {
		if was.state == "out" || was.state == "aligning" {
			return
		}
		w.do("link:9 damage link:9 damage")
		for i := 0; w.x.S != state.Out; i++ {
			if i == 64 {
				t.Fatalf("%s: 64 don't end it", w.what())
			}
			w.do("damage")
		}
		if told := w.do("told"); told != "OutOfService 1" {
			t.Fatalf("%s: %s", w.what(), told)
		}
	})
}

// P8: one in 256 never ends it: in each state in which the Leak counts.
func TestFew(t *testing.T) {
	for _, cyclic := range both {
		for _, place := range []string{ready, notReady, service, service + " outage", service + " sipo"} {
			for _, first := range []int{0, 1, 128, 255} {
				x := at(t, cyclic, place).x
				was := x.S
				for i := range 256 * 200 {
					if i%256 == first {
						x.Damage()
					} else {
						x.Hear(api.Unit{Kind: api.Link, Status: 99})
					}
					if x.S != was || x.Wrong() > 1 {
						t.Fatalf("%s: unit %d: %s, Wrong %d", place, i, state.Name(x.S), x.Wrong())
					}
				}
			}
		}
	}
}

// P17.4: each status from 0 to 255 at each place, against the model, and what comes and goes behind it.
func TestHearLinkAll(t *testing.T) {
	for status := range 256 {
		each(t, func(w *twin, was seen) {
			if status > 7 && status < 254 && len(w.done) > 4 {
				if w.x.Hear(api.Unit{Kind: api.Link, Status: byte(status), BSN: 99, FIB: false}); look(w.x) != was && was.wrong == 0 {
					t.Fatalf("%s: status %d: %+v, want %+v", w.what(), status, look(w.x), was)
				}
				return
			}
			w.do(fmt.Sprintf("link:%d told", status))
			w.do("next tick fill next told")
		})
	}
}

// P17.4: a Link's numbers say nothing, whatever they are: neither an answer, nor one that is odd.
func TestHearLinkNumbers(t *testing.T) {
	for _, status := range []byte{api.SIPO, api.SIB, 6, 255} {
		each(t, func(w *twin, was seen) {
			if was.state == "out" || was.state == "aligning" {
				return
			}
			for range 5 {
				w.x.Hear(api.Unit{Kind: api.Link, Status: status, BSN: 99, FSN: 99})
				w.x.Hear(api.Unit{Kind: api.Link, Status: status, BSN: 0, FSN: 0, BIB: true, FIB: true, Info: []byte("abc")})
			}
			if got := lookAt(w.x.W); got != was.way {
				t.Fatalf("%s: status %d: %+v, want %+v", w.what(), status, got, was.way)
			}
			if told := toldText(w.x.Told()); strings.Contains(told, "Message") || strings.Contains(told, "Out") && status != api.SIPO {
				t.Fatalf("%s: status %d: %s", w.what(), status, told)
			}
		})
	}
}

// P17.4: SIOS, SIO, SIN and SIE in each state.
func TestHearLink(t *testing.T) {
	try(t, []row{
		// Out: nothing.
		{"", "sios", "", "out", "", ""},
		{"", "sio", "", "out", "", ""},
		{"", "sipo", "", "out", "", ""},
		// Aligning: the Align's.
		{apart, "sios", "", "aligning", "", "2:202"},
		{apart, "sio", "", "aligning", "", "3:303"},
		{apart, "sin", "", "aligning", "", "3:303"},
		{apart, "sie", "", "aligning", "", "3:303"},
		{apart, "sipo", "", "aligning", "", "2:202"},
		{apart, "sib", "", "aligning", "", "2:202"},
		{near, "sios", "", "out", "OutOfService 8", ""},
		{near + " tick:3", "sio", "", "aligning", "", "3:300"},
		{near, "sin", "", "aligning", "", "4:44"},
		{near, "sie", "", "aligning", "", "0:11"},
		{near + " tick:3", "sipo", "", "aligning", "", "3:300"},
		{tried, "sios", "", "out", "OutOfService 8", ""},
		{tried, "sio", "", "aligning", "", "3:303"},
		{tried + " tick:3", "sin", "", "aligning", "", "4:41"},
		{tried + " tick:3", "sie", "", "aligning", "", "0:11"},
		{tried + " tick:3", "sipo", "", "aligning", "", "4:41"},
		{tried + " tick:3", "sib", "", "aligning", "", "4:41"},
		// Ready, NotReady: the other side may not be proved yet.
		{ready, "sios", "", "out", "OutOfService 8", ""},
		{ready, "sio", "", "out", "OutOfService 9", ""},
		{ready, "sin", "", "ready", "", "1:998"},
		{ready, "sie", "", "ready", "", "1:998"},
		{ready, "sib", "", "ready", "", "1:998"},
		{ready, "link:6", "", "ready", "", "1:998"},
		{notReady, "sios", "", "out", "OutOfService 8", ""},
		{notReady, "sio", "", "out", "OutOfService 9", ""},
		{notReady, "sin", "", "notready", "", "1:998"},
		{notReady, "sie", "", "notready", "", "1:998"},
		{notReady, "sib", "", "notready", "", "1:998"},
		{notReady, "link:255", "", "notready", "", "1:998"},
		// Service, Halted.
		{waits, "sios", "", "out", "OutOfService 8", ""},
		{waits, "sio", "", "out", "OutOfService 9", ""},
		{waits, "sin", "", "out", "OutOfService 9", ""},
		{waits, "sie", "", "out", "OutOfService 9", ""},
		{waits, "link:6", "", "service", "", "7:704"},
		{waits + " outage", "sios", "", "out", "OutOfService 8", ""},
		{waits + " outage", "sio", "", "out", "OutOfService 9", ""},
		{waits + " outage", "sin", "", "out", "OutOfService 9", ""},
		{waits + " sipo", "sie", "", "out", "OutOfService 9", ""},
		{waits + " sipo", "link:100", "", "halted", "", ""},
	})
}

// P17.4: SIPO: of Ready and NotReady it serves first; told: TheyOut, once; of service it halts.
func TestHearOut(t *testing.T) {
	try(t, []row{
		{ready, "sipo", "", "halted", "InService, TheyOut", ""},
		{notReady, "sipo", "", "halted", "InService, TheyOut", ""},
		{service, "sipo", "", "halted", "TheyOut", ""},
		{service + " sipo", "sipo", "", "halted", "", ""},
		{waits + " jamin sib", "sipo", "", "halted", "TheyOut", ""},
		{waits + " outage", "sipo", "", "halted", "TheyOut", ""},
		{waits + " outage sipo", "sipo", "", "halted", "", ""},
		{waits + " sipo fill", "sipo", "", "halted", "TheyOut", ""},
		{waits + " sipo fill continue", "sipo", "", "halted", "TheyOut", ""},
		{waits + " sipo jamin tick:3", "sipo", "", "halted", "", "5:52"},
	})
}

// P17.4: SIB, in service alone: told: JamOn, once; 6 starts, and 7 anew, while messages wait.
func TestHearBusy(t *testing.T) {
	try(t, []row{
		{service, "sib", "", "service", "JamOn", "6:606"},
		{service + " sib tick:3", "sib", "", "service", "", "6:603"},
		{service + " send:abc", "sib", "", "service", "JamOn", "6:606"},
		{waits, "sib", "", "service", "JamOn", "6:606 7:707"},
		{waits + " sib tick:3", "sib", "", "service", "", "6:603 7:707"},
		{service + " sib tick:3 send:abc next tick:3", "sib", "", "service", "", "6:600 7:707"},
		{waits + " sib fill:0", "sib", "", "service", "JamOn", "6:606 7:707"},
		{waits + " outage", "sib", "", "halted", "", ""},
		{waits + " sipo fill", "sib", "", "halted", "", ""},
	})
}

// P17.4: another one: in Aligning nothing; of Ready and NotReady it serves first; with an outage it halts then.
func TestHearServes(t *testing.T) {
	for _, word := range []string{"fill", "signal", "kind:3", "kind:255"} {
		message := ""
		if word == "signal" {
			message = ", Message xyz"
		}
		try(t, []row{
			{"", word, "", "out", "", ""},
			{apart, word, "", "aligning", "", "2:202"},
			{near, word, "", "aligning", "", "3:303"},
			{tried, word, "", "aligning", "", "4:44"},
			{ready, word, "", "service", "InService" + message, ""},
			{notReady, word, "", "halted", "InService", ""},
		})
	}
	// In Aligning its numbers say nothing either.
	try(t, []row{
		{tried + " fill:99 fill:99 fill:99", "fill:99", "", "aligning", "", "4:44"},
		{tried + " fill:99 fill:99 tick:44 fill:99", "fill", "", "service", "", ""},
		{ready + " fill:99", "fill:99", "", "out", "OutOfService 4", ""},
	})
}

// P17.4: with Their another one says that it is back: told: TheyIn, once; it goes on where the Outage lets it, which it does when level 3 goes on.
func TestHearIn(t *testing.T) {
	try(t, []row{
		{waits + " sipo", "fill", "", "halted", "TheyIn", ""},
		{waits + " sipo fill", "fill", "", "halted", "", ""},
		{waits + " sipo", "signal", "", "halted", "TheyIn, Message xyz", ""},
		{waits + " sipo", "kind:7", "", "halted", "TheyIn", ""},
		{waits + " sipo outage", "signal", "", "halted", "TheyIn", ""},
		{waits + " sipo fill sipo", "fill", "", "halted", "TheyIn", ""},
		{waits + " sipo", "fill:99", "", "halted", "TheyIn", ""},
		{waits + " sipo fill:99", "fill:99", "", "out", "OutOfService 4", ""},
		{waits + " outage fill:99 sipo", "fill:99", "", "out", "TheyIn, OutOfService 4", ""},
		{waits, "fill", "", "service", "", "7:704"},
	})
}

// P17.4: the Way's Answer: ErrRange: Unfit, and nothing more: neither is anything taken, nor is anybody told not to be busy.
func TestHearUnfit(t *testing.T) {
	try(t, []row{
		{service, "fill:99", "", "service", "", ""},
		{service + " fill:99", "fill:99", "", "out", "OutOfService 4", ""},
		{service + " fill:99 fill", "fill:99", "", "out", "OutOfService 4", ""},
		{service + " fill:99 fill fill", "fill:99", "", "service", "", ""},
		{service + " fill:99", "signal:99:0:abc", "", "out", "OutOfService 4", ""},
		{service + " sib fill:99 sib", "signal:99:0:abc", "", "out", "OutOfService 4", ""},
		{waits + " fill:2", "fill:2", "", "out", "OutOfService 4", ""},
		{waits + " jamin fill:99", "fill:99", "", "out", "OutOfService 4", ""},
		{waits + " outage fill:99", "fill:99", "", "out", "OutOfService 4", ""},
		{ready + " fill:99", "signal:99", "", "out", "OutOfService 4", ""},
		// One that is odd once takes its message nevertheless.
		{service, "signal:99:0:abc", "", "service", "Message abc", ""},
		{service, "signal:200:0:abc", "", "service", "Message abc", ""},
	})
	each(t, func(w *twin, was seen) {
		if was.state == "out" || was.state == "aligning" {
			return
		}
		w.do("fill:99 told")
		taken := w.x.W.Taken()
		next := (int(taken) + 1) % 128
		if w.x.S != state.Out {
			w.do(fmt.Sprintf("signal:99:%d:abc", next))
			if told := w.do("told"); told != "OutOfService 4" || w.x.W.Taken() != taken {
				t.Fatalf("%s: %s, Taken %d", w.what(), told, w.x.W.Taken())
			}
		}
	})
}

// P17.4: timer 7 behind an answer, in service: where some wait no more it starts anew, if others do, else it stops; where none was answered, or it isn't in service, it is left as it is.
func TestHearAnswerTimer(t *testing.T) {
	try(t, []row{
		{waits, "fill:0", "", "service", "", "7:707"},
		{waits, "fill:1", "", "service", "", ""},
		{waits, "signal:0:0:abc", "", "service", "Message abc", "7:707"},
		{waits, "signal:1:0:abc", "", "service", "Message abc", ""},
		{waits, "signal:1:5:abc", "", "service", "", ""},
		{waits, "kind:8:0", "", "service", "", "7:707"},
		{waits, "fill", "", "service", "", "7:704"},
		{waits, "fill:127:127:B", "", "service", "", "7:704"},
		{waits, "fill:99", "", "service", "", "7:704"},
		{waits + " fill:0 tick:9", "fill:0", "", "service", "", "7:698"},
		{waits + " fill:0 tick:9", "fill:1", "", "service", "", ""},
		{waits + " jamin", "fill:0", "", "service", "", "5:55 7:707"},
		{waits + " outage", "fill:0", "", "halted", "", ""},
		{waits + " outage set:7:5", "fill:0", "", "halted", "", "7:5"},
		{waits + " outage set:7:5", "fill:1", "", "halted", "", "7:5"},
		{waits + " sipo fill set:7:5", "fill:1", "", "halted", "", "7:5"},
		{waits + " sipo", "fill:0", "", "halted", "TheyIn", ""},
		{service + " set:7:5", "fill", "", "service", "", "7:5"},
	})
}

// P17.4: with the other side busy: JamOff is told, once, when one waits no more, or none waits; and 6 stops.
func TestHearJamOff(t *testing.T) {
	try(t, []row{
		{service + " sib", "fill", "", "service", "JamOff", ""},
		{service + " sib fill", "fill", "", "service", "", ""},
		{service + " sib", "signal", "", "service", "JamOff, Message xyz", ""},
		{service + " sib", "fill:99", "", "service", "JamOff", ""},
		{service + " sib send:abc", "fill", "", "service", "JamOff", ""},
		{service + " sib jamin", "signal", "", "service", "JamOff", "5:55"},
		{waits + " sib tick:3", "fill", "", "service", "", "6:603 7:704"},
		{waits + " sib tick:3", "signal", "", "service", "Message xyz", "6:603 7:704"},
		{waits + " sib tick:3", "fill:0", "", "service", "JamOff", "7:707"},
		{waits + " sib tick:3", "fill:1", "", "service", "JamOff", ""},
		{waits + " sib tick:3 fill:0", "fill:1", "", "service", "", ""},
		{waits + " sib tick:3 fill:0 sib tick:3", "fill:0", "", "service", "", "6:603 7:704"},
		{waits + " sib tick:3 fill:0 sib tick:3", "fill:1", "", "service", "JamOff", ""},
		{waits, "fill:0", "", "service", "", "7:707"},
	})
}

// P17.4: the Way's Take: a message that is taken is told; while this side's processor is out, or it is busy, the Way takes nothing.
func TestHearTake(t *testing.T) {
	try(t, []row{
		{service, "signal:127:0:abc", "", "service", "Message abc", ""},
		{service + " signal:127:0:abc", "signal:127:1:d", "", "service", "Message d", ""},
		{service + " signal:127:0:abc", "signal:127:0:abc", "", "service", "", ""},
		{service, "signal:127:1:abc", "", "service", "", ""},
		{service, "signal:127:0:#272", "", "service", "Message " + strings.Repeat("x", 272), ""},
		{service, "kind:3:127:0:abc", "", "service", "", ""},
		{service + " outage", "signal", "", "halted", "", ""},
		{service + " sipo fill", "signal", "", "halted", "Message xyz", ""},
		{service + " sipo fill outage", "signal", "", "halted", "", ""},
		{service + " sipo fill jamin", "signal", "", "halted", "", "5:55"},
		{service + " jamin", "signal", "", "service", "", "5:55"},
		{service + " jamin jamout", "signal", "", "service", "Message xyz", ""},
		{service + " jamin signal jamout", "signal", "", "service", "Message xyz", ""},
		{service + " outage back", "signal", "", "service", "Message xyz", ""},
		{service + " sib", "signal", "", "service", "JamOff, Message xyz", ""},
	})
}

// basicOnly are rows that the basic method alone is tried by: the cyclic one has no indicators.
func basicOnly(t *testing.T, rows []row) {
	t.Helper()
	for _, r := range rows {
		w := at(t, false, r.place)
		answer := w.do(r.call)
		s := look(w.x)
		if got := (row{r.place, r.call, answer, s.state, w.do("told"), timersText(s.left)}); got != r {
			t.Errorf("%+v, want\n%+v", got, r)
		}
	}
}

// P17.4: the Way's Take: ErrRange: Unfit; where the Way takes nothing no indicator is odd.
func TestHearTakeUnfit(t *testing.T) {
	basicOnly(t, []row{
		{service, "fill:127:127:F", "", "service", "", ""},
		{service + " fill:127:127:F", "fill:127:127:F", "", "out", "OutOfService 4", ""},
		{service + " fill:127:127:F fill", "signal:127:0:abc:F", "", "out", "OutOfService 4", ""},
		{service + " fill:127:127:F fill fill", "fill:127:127:F", "", "service", "", ""},
		{waits + " fill:127:127:F", "fill:0:127:F", "", "out", "OutOfService 4", ""},
		{service + " sib fill:127:127:F sib", "fill:127:127:F", "", "out", "JamOff, OutOfService 4", ""},
		{service + " sipo fill:127:127:F sipo", "fill:127:127:F", "", "out", "TheyIn, OutOfService 4", ""},
		{service + " outage fill:127:127:F fill:127:127:F", "fill:127:127:F", "", "halted", "", ""},
		{service + " jamin fill:127:127:F fill:127:127:F", "fill:127:127:F", "", "service", "", "5:55"},
		{service + " fill:127:127:F jamin fill:127:127:F jamout", "fill:127:127:F", "", "out", "OutOfService 4", ""},
		// One that was lost is asked for again; of one that was asked for again the old indicator is right.
		{service + " signal:127:1:abc", "next", "Fill 127- 127+", "service", "", ""},
		{service + " signal:127:1:abc signal:127:2:abc signal:127:3:abc", "signal:127:4:abc", "", "service", "", ""},
		{service + " signal:127:1:abc", "signal:127:0:abc:F", "", "service", "Message abc", ""},
		{service + " jamin signal:127:1:abc", "next", "SIB 127+ 127+", "service", "", "5:55"},
		{service + " jamin signal:127:1:abc next", "next", "Fill 127+ 127+", "service", "", "5:55"},
	})
}

// P17.4: what fails by being counted isn't heard then, and nothing is behind it: it tells but the one reason.
func TestHearCountedFails(t *testing.T) {
	for _, cyclic := range both {
		for _, place := range []string{tried + " damage:19", ready + " damage:63", service + " damage:63", waits + " sipo damage:63"} {
			w := at(t, cyclic, place)
			w.do("damage")
			if told := w.do("told"); w.x.S != state.Out || told != "OutOfService 1" && told != "OutOfService 5" {
				t.Fatalf("%s: %s", w.what(), told)
			}
			was := look(w.x)
			for _, word := range []string{"fill:0", "signal", "sio", "sios", "sipo", "sib", "damage", "kind:4"} {
				w.do(word)
				if told := w.do("told"); told != "" || look(w.x) != was {
					t.Fatalf("%s: %s", w.what(), told)
				}
			}
		}
	}
}

// P17.4, P1: units that may not be, and any kinds, at each place.
func TestHearOdd(t *testing.T) {
	each(t, func(w *twin, was seen) {
		for kind := range 256 {
			for _, u := range []api.Unit{{Kind: byte(kind)}, {Kind: byte(kind), BSN: 255, FSN: 255, Status: 255, Wide: true}, {Kind: byte(kind), BSN: was.way.first, FSN: was.way.taken + 1, BIB: was.way.fib, FIB: was.way.bib, Info: make([]byte, 300)}} {
				w.x.Hear(u)
				w.m.Hear(u)
				if got, want := look(w.x), w.m.look(); got != want {
					t.Fatalf("%s: %v: %+v, want %+v", w.what(), u, got, want)
				}
			}
			if kind%4 == 3 {
				w.do("told")
			}
		}
	})
}

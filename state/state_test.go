package state_test

import (
	"bytes"
	"fmt"
	"slices"
	"testing"

	"signalman/api"
	"signalman/outage"
	"signalman/setup"
	"signalman/state"
	"signalman/way"
)

// The chapter's example.
func TestExample(t *testing.T) {
	for _, cyclic := range both {
		x := state.New(setup.Usual(cyclic))
		if e := x.Order(api.Order{Kind: api.Start}); e != api.OK || x.S != state.Aligning {
			t.Errorf("Start: %d, %s", e, state.Name(x.S))
		}
		if u := x.Next(); u.Kind != api.Link || u.Status != api.SIO {
			t.Errorf("Next: %v", u)
		}
	}
}

// P17.1: New: out, with nothing told, nothing failed, nothing wrong, no timer, no outage, nobody busy, nothing that waits or was taken; by the setup's method.
func TestNew(t *testing.T) {
	for _, cyclic := range both {
		x := state.New(set(cyclic))
		want := seen{state: "out", how: "idle", sends: api.SIOS, way: lookAt(way.New(set(cyclic)))}
		if got := look(x); got != want {
			t.Errorf("%+v, want %+v", got, want)
		}
		if x.S != state.Out || len(x.Told()) != 0 || x.Fails() != 0 || x.Wrong() != 0 || x.O != (outage.Outage{}) {
			t.Errorf("%+v", x)
		}
		if got, want := way.Name(x.W), map[bool]string{false: "basic", true: "cyclic"}[cyclic]; got != want {
			t.Errorf("the way is %s, want %s", got, want)
		}
		if got := unitText(x.Next()); got != "SIOS 127+ 127+" {
			t.Errorf("Next: %s", got)
		}
	}
}

// P17.1: a State's parts work by the setup: its timers start the Align's, the Jam's and the State's own, on one Clock; its numbers are the Hold's. What becomes of the setup later changes nothing.
func TestNewSetup(t *testing.T) {
	for _, cyclic := range both {
		for _, l := range [][8]int{{3, 5, 7, 9, 4, 6, 8, 10}, {1, api.MaxTime, api.MaxTime, api.MaxTime, 1, 1, 2, 3}, times, setup.Usual(cyclic).T} {
			s := api.Setup{Cyclic: cyclic, N1: 2, N2: 100, Hold: 3, Octets: 400, T: l}
			w := newTwin(t, s)
			s.T, s.Hold = [8]int{}, 0
			w.do("start sin sin")
			w.do(fmt.Sprint("tick:", l[4]))
			if got := w.x.C.Left(1); w.x.S != state.Ready || got != l[1] {
				t.Fatalf("%v: %s, timer 1: %d", l, state.Name(w.x.S), got)
			}
			w.do("fill send:abc send:abc send:abc next jamin sib")
			if got, want := look(w.x).left, [8]int{5: l[5], 6: l[6], 7: l[7]}; got != want {
				t.Errorf("timers %v, want %v", got, want)
			}
			if e := w.do("send:abc"); e != "ErrFull" {
				t.Errorf("a fourth message: %s", e)
			}
		}
	}
}

// P17.1, P1: New of setups that may not be doesn't panic, nor do its calls.
func TestNewOdd(t *testing.T) {
	for _, cyclic := range both {
		for _, n := range []int{-1 << 62, -1, 0, 1 << 62} {
			s := api.Setup{Cyclic: cyclic, N1: n, N2: n, Hold: n, Octets: n, T: [8]int{n, n, n, n, n, n, n, n}}
			x := state.New(s)
			for _, word := range []string{"start", "sin", "sin", "tick", "damage", "fill", "next", "sib", "jamin", "send:abc", "next", "fill", "stop", "start", "told"} {
				say(x, word)
			}
		}
	}
}

// failed is what is to be seen behind Fail: what waits, was taken and is sent next is left as it is.
func failed(was seen) seen {
	was.state, was.how, was.sends = "out", "idle", api.SIOS
	was.left = [8]int{}
	was.o = outage.Outage{Own: was.o.Own}
	was.ownJam, was.theyJam = false, false
	was.wrong = 0
	was.fails++
	return was
}

// P17.1: Fail with each reason, from each place: the Align is idle, nobody is busy, no timer runs, no unit is wrong, Own alone stays, it is told once, and counted; of one that is Out nothing.
func TestFail(t *testing.T) {
	for why := range 256 {
		each(t, func(w *twin, was seen) {
			if why > 12 && why != 255 && len(w.done) > 3 {
				return
			}
			ahead := (was.way.first + 127) % 128
			all, _ := w.x.W.Hold().Rest(ahead)
			w.do(fmt.Sprint("fail:", why))
			want, told := failed(was), []api.Told{{Kind: api.OutOfService, Why: byte(why)}}
			if was.state == "out" {
				want, told = was, nil
			}
			if got := look(w.x); got != want {
				t.Fatalf("%s: %+v, want %+v", w.what(), got, want)
			}
			if got := w.x.Told(); toldText(got) != toldText(told) || len(got) != len(told) {
				t.Fatalf("%s: told %v, want %v", w.what(), got, told)
			}
			allNow, _ := w.x.W.Hold().Rest(ahead)
			if !slices.EqualFunc(all, allNow, bytes.Equal) || len(all) != was.way.sent+was.way.next {
				t.Fatalf("%s: what waits is another thing: %q, want %q", w.what(), allNow, all)
			}
		})
	}
}

// P17.1: Fail twice: the second one does nothing, and tells nothing.
func TestFailTwice(t *testing.T) {
	each(t, func(w *twin, was seen) {
		w.do("fail:3")
		w.do("told")
		once := look(w.x)
		w.do("fail:4")
		if told := w.do("told"); told != "" || look(w.x) != once || once.fails > was.fails+1 {
			t.Fatalf("%s: %q, %+v, want %+v", w.what(), told, look(w.x), once)
		}
	})
}

// P17.1: the Leak is a new one behind Fail, and at Start: what was wrong doesn't count on.
func TestFailLeak(t *testing.T) {
	for _, cyclic := range both {
		w := at(t, cyclic, waits+" damage:63")
		if w.x.Wrong() != 63 {
			t.Fatalf("Wrong %d", w.x.Wrong())
		}
		w.do("stop")
		if w.x.Wrong() != 0 {
			t.Errorf("behind Stop: Wrong %d", w.x.Wrong())
		}
		w.do(service + " damage:63")
		if w.x.Wrong() != 63 || w.x.S != state.Service {
			t.Errorf("Wrong %d, %s", w.x.Wrong(), state.Name(w.x.S))
		}
		if w.do("damage"); w.x.S != state.Out || w.x.Wrong() != 0 || w.x.Fails() != 2 {
			t.Errorf("Wrong %d, %s, Fails %d", w.x.Wrong(), state.Name(w.x.S), w.x.Fails())
		}
	}
}

// P17.1: Fail ends this side's being busy, with the status that is due: when it serves again none is.
func TestFailJam(t *testing.T) {
	for _, cyclic := range both {
		w := at(t, cyclic, service+" jamin stop "+service)
		if u := w.do("next"); u != "Fill 127+ 127+" {
			t.Errorf("Next: %s", u)
		}
		if w.x.J.Own || w.x.C.On(5) {
			t.Error("it is busy still")
		}
	}
}

// P17.1: to halt, to go on, to serve: which timers stop and start, who is busy, and what is told.
func TestHaltGoOnServe(t *testing.T) {
	try(t, []row{
		// To halt: the Jam is Cleared, 7 stops; nothing is told.
		{waits, "outage", "OK", "halted", "", ""},
		{waits + " jamin next", "outage", "OK", "halted", "", ""},
		{waits + " sib", "outage", "OK", "halted", "", ""},
		{waits + " jamin sib", "sipo", "", "halted", "TheyOut", ""},
		{waits + " sib outage back", "sib", "", "service", "JamOn", "6:606 7:707"},
	})
	for _, cyclic := range both {
		w := at(t, cyclic, waits+" jamin outage back next")
		if got := w.do("next"); got == "SIB 127+ 1+" || w.x.J.Own {
			t.Errorf("busy still: %s", got)
		}
	}
	try(t, []row{
		// To go on: 7 starts, if messages wait; a Jam of Halted goes on too.
		{waits + " outage tick:9", "back", "OK", "service", "", "7:707"},
		{service + " outage tick:9", "back", "OK", "service", "", ""},
		{service + " send:abc outage tick:9", "back", "OK", "service", "", ""},
		{waits + " outage jamin tick:9", "back", "OK", "service", "", "5:46 7:707"},
		{service + " outage jamin tick:9 back", "next", "SIB 127+ 127+", "service", "", "5:46"},
		{waits + " outage fill:0 tick:9", "back", "OK", "service", "", "7:707"},
		{waits + " outage fill:1 tick:9", "back", "OK", "service", "", ""},
		{waits + " outage set:7:5", "back", "OK", "service", "", "7:5"},
		{waits + " sipo fill tick:9", "continue", "OK", "service", "", "7:707"},
		// To serve: 1 stops, and alone; with an outage it halts then.
		{ready, "fill", "", "service", "InService", ""},
		{ready + " set:5:9 set:6:8 set:7:7", "fill", "", "service", "InService", "5:9 6:8 7:7"},
		{notReady, "fill", "", "halted", "InService", ""},
		{notReady + " set:2:5 set:5:9 set:6:8 set:7:7", "fill", "", "halted", "InService", "2:5"},
	})
}

// P17.5: Told: what was told since it was asked last, in order, and then nothing. What is answered may be appended to, and written over.
func TestTold(t *testing.T) {
	for _, cyclic := range both {
		w := newTwin(t, set(cyclic))
		w.do(service + " sipo signal continue sib sib signal:127:1:two stop " + service + " signal:127:0:three")
		want := "InService, TheyOut, TheyIn, Message xyz, JamOn, JamOff, Message two, OutOfService 10, InService, Message three"
		got := w.x.Told()
		if text := toldText(got); text != want || toldText(w.m.Told()) != want {
			t.Fatalf("%s, want %s", text, want)
		}
		if again := w.x.Told(); len(again) != 0 {
			t.Errorf("again: %v", again)
		}
		for i := range got {
			got[i].P = append(got[i].P, "more"...)
			got[i].Kind = 99
		}
		got = append(got, api.Told{})
		w.do("signal:127:1:four")
		if told := w.do("told"); told != "Message four" {
			t.Errorf("behind it: %q", told)
		}
	}
}

// P17.5: Fails: how often it went out, for each reason; Start and orders that are refused count nothing.
func TestFails(t *testing.T) {
	for _, cyclic := range both {
		w := newTwin(t, set(cyclic))
		for i, words := range []string{"start stop", "stop stop start start sin sios", "start tick:202", "start sin tick:303", tried + " damage:20", tried + " tick:44 tick:1001", ready + " sios", service + " damage:64", waits + " tick:707", service + " sib tick:606", service + " sio", service + " fail:0"} {
			w.do(words)
			if w.x.Fails() != i+1 || w.x.S != state.Out {
				t.Fatalf("%s: Fails %d, want %d", words, w.x.Fails(), i+1)
			}
		}
		told := "OutOfService 10, OutOfService 8, OutOfService 7, OutOfService 7, OutOfService 5, OutOfService 6, OutOfService 8, InService, OutOfService 1, InService, OutOfService 2, InService, JamOn, OutOfService 3, InService, OutOfService 9, InService, OutOfService 0"
		if got := w.do("told"); got != told {
			t.Errorf("told %s", got)
		}
	}
}

// P17.5: Wrong: how many units weren't right, and aren't forgotten: one less for each 256 units.
func TestWrong(t *testing.T) {
	for _, cyclic := range both {
		for _, place := range []string{ready, notReady, service, service + " outage", service + " sipo"} {
			w := at(t, cyclic, place)
			for i := range 5 {
				if w.do("damage"); w.x.Wrong() != i+1 {
					t.Fatalf("%s: %d, want %d", w.what(), w.x.Wrong(), i+1)
				}
			}
			for i := range 256 * 5 {
				w.do("link:77")
				// The first of the five isn't one of the 256, the four behind it are.
				if want := 5 - (i+1+4)/256; w.x.Wrong() != want {
					t.Fatalf("%s: %d units: %d, want %d", place, i+1, w.x.Wrong(), want)
				}
			}
			if w.x.Wrong() != 0 {
				t.Errorf("%s: %d", place, w.x.Wrong())
			}
		}
		for _, place := range []string{"", tried} {
			w := at(t, cyclic, place+" damage:3")
			if w.x.Wrong() != 0 {
				t.Errorf("%q: %d", place, w.x.Wrong())
			}
		}
	}
}

// P17.5: Name of each number.
func TestName(t *testing.T) {
	names := []string{"out", "aligning", "ready", "notready", "service", "halted"}
	for s := range 256 {
		want := ""
		if s < len(names) {
			want = names[s]
		}
		if got := state.Name(byte(s)); got != want {
			t.Errorf("Name(%d) is %q, want %q", s, got, want)
		}
	}
	for i, s := range []byte{state.Out, state.Aligning, state.Ready, state.NotReady, state.Service, state.Halted} {
		if int(s) != i {
			t.Errorf("%s is %d, want %d", names[i], s, i)
		}
	}
}

// P17.5, P1: a nil State: ErrNone, a zero Unit, nothing, 0.
func TestNil(t *testing.T) {
	var x *state.State
	for kind := range 256 {
		if e := x.Order(api.Order{Kind: byte(kind), P: []byte("abc")}); e != api.ErrNone {
			t.Errorf("Order(%d): %d", kind, e)
		}
		x.Fail(byte(kind))
		x.Hear(api.Unit{Kind: byte(kind)})
		x.Hear(api.Unit{Kind: api.Link, Status: byte(kind)})
	}
	x.Tick()
	x.Damage()
	if u := x.Next(); u.BSN != 0 || u.FSN != 0 || u.BIB || u.FIB || u.Kind != 0 || u.Status != 0 || u.Wide || u.Info != nil {
		t.Errorf("Next: %v", u)
	}
	if l := x.Told(); len(l) != 0 {
		t.Errorf("Told: %v", l)
	}
	if x.Fails() != 0 || x.Wrong() != 0 {
		t.Errorf("Fails %d, Wrong %d", x.Fails(), x.Wrong())
	}
}

// P2: two States know nothing of each other.
func TestApart(t *testing.T) {
	for _, cyclic := range both {
		x, y := newTwin(t, set(cyclic)), newTwin(t, set(cyclic))
		x.do(waits + " jamin sib damage:5")
		if got, want := look(y.x), look(state.New(set(cyclic))); got != want {
			t.Errorf("%+v, want %+v", got, want)
		}
		y.do("start damage:5 stop told")
		x.do("tick next signal:0:0:abc told")
	}
}

// What is handed in isn't changed, and may be written over: of Send's message, and of a unit's.
func TestMemory(t *testing.T) {
	for _, cyclic := range both {
		w := at(t, cyclic, service)
		p, info := []byte("message"), []byte("came")
		if e := w.x.Order(api.Order{Kind: api.Send, P: p}); e != api.OK || string(p) != "message" {
			t.Fatal(e, string(p))
		}
		w.x.Hear(api.Unit{BSN: 127, BIB: true, FIB: true, FSN: 0, Kind: api.Signal, Info: info})
		if string(info) != "came" {
			t.Fatalf("%s", info)
		}
		told := w.x.Told()
		if toldText(told) != "Message came" {
			t.Fatal(told)
		}
		told[0].P[0] = 'X'
		copy(p, "XXXXXXX")
		if u := w.x.Next(); string(u.Info) != "message" || string(info) != "came" {
			t.Errorf("%s, %s", u.Info, info)
		}
	}
}

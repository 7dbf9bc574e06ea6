package state_test

import (
	"fmt"
	"testing"

	"signalman/api"
	"signalman/outage"
	"signalman/state"
)

// P17.2: each kind of order that there is none of, from 0 to 255, at each place: ErrArg, with a message and without, and nothing has changed.
func TestOrderNone(t *testing.T) {
	each(t, func(w *twin, was seen) {
		for kind := range 256 {
			if kind >= int(api.Start) && kind <= int(api.JamOut) {
				continue
			}
			for _, p := range [][]byte{nil, {}, []byte("abc"), make([]byte, 300)} {
				if e := w.x.Order(api.Order{Kind: byte(kind), P: p}); e != api.ErrArg {
					t.Fatalf("%s: Order(%d): %d", w.what(), kind, e)
				}
			}
		}
		if got := look(w.x); got != was || len(w.x.Told()) != 0 {
			t.Fatalf("%s: %+v, want %+v", w.what(), got, was)
		}
	})
}

// P17.2: each order at each place, once and twice, against the model; beside an error nothing has changed, and nothing is told.
func TestOrderAll(t *testing.T) {
	for kind := range api.JamOut + 1 {
		for _, p := range []string{"", ":abc", ":ab", ":#273", ":#274", ":#600"} {
			if p != "" && kind != api.Send && p != ":abc" {
				continue
			}
			each(t, func(w *twin, was seen) {
				for range 2 {
					was = look(w.x)
					answer := w.do(fmt.Sprint("order:", kind, p))
					told := w.do("told")
					if answer != "OK" && (look(w.x) != was || told != "") {
						t.Fatalf("%s: beside %s: %+v, want %+v; told %q", w.what(), answer, look(w.x), was, told)
					}
				}
				w.do("next next fill tick next told")
			})
		}
	}
}

// P17.2: Start: of one that is out; else ErrState.
func TestStart(t *testing.T) {
	try(t, []row{
		{"", "start", "OK", "aligning", "", "2:202"},
		{"outage", "start", "OK", "aligning", "", "2:202"},
		{"hurry", "start", "OK", "aligning", "", "2:202"},
		{"start stop", "start", "OK", "aligning", "", "2:202"},
		{waits + " sios", "start", "OK", "aligning", "", "2:202"},
		{"set:0:5 set:1:5 set:3:5 set:4:5 set:5:5 set:6:5 set:7:5", "start", "OK", "aligning", "", "1:5 2:202 5:5 6:5 7:5"},
		{apart + " tick:3", "start", "ErrState", "aligning", "", "2:199"},
		{near + " tick:3", "start", "ErrState", "aligning", "", "3:300"},
		{tried + " tick:3", "start", "ErrState", "aligning", "", "4:41"},
		{ready, "start", "ErrState", "ready", "", "1:998"},
		{notReady, "start", "ErrState", "notready", "", "1:998"},
		{service, "start", "ErrState", "service", "", ""},
		{waits, "start", "ErrState", "service", "", "7:704"},
		{waits + " outage", "start", "ErrState", "halted", "", ""},
	})
}

// P17.2: Start resets the Way: nothing waits, nothing was taken, both indicators are set; what was odd is forgotten; the messages go from 0 on.
func TestStartResets(t *testing.T) {
	for _, cyclic := range both {
		fresh := at(t, cyclic, service)
		w := at(t, cyclic, waits+" signal:0:0:abc signal:0:5:abc:B fill:99 stop")
		if w.x.W.Hold().Sent() != 1 || w.x.W.Hold().Next() != 1 || w.x.W.Taken() != 0 {
			t.Fatalf("%+v", look(w.x))
		}
		w.do("start")
		if got, want := lookAt(w.x.W), lookAt(fresh.x.W); got != want {
			t.Fatalf("%+v, want %+v", got, want)
		}
		if u := w.x.Next(); u.BSN != 127 || u.FSN != 127 || !u.BIB || !u.FIB || u.Status != api.SIO {
			t.Errorf("Next: %s", unitText(u))
		}
		if w.do("sin sin tick:44 fill:99"); w.x.S != state.Service {
			t.Errorf("%s: an odd unit of an earlier link counts", state.Name(w.x.S))
		}
		if got := w.do("send:abc next"); got != "Signal abc 127+ 0+" {
			t.Errorf("%s", got)
		}
	}
}

// P17.2: Start: of the outage Own alone stays, an emergency of this side's own too; the other side's is forgotten, and how often the proving was given up.
func TestStartKeeps(t *testing.T) {
	for _, cyclic := range both {
		for place, want := range map[string]outage.Outage{"": {}, "outage": {Own: true}, service + " sipo stop": {}, service + " sipo fill stop": {}, service + " sipo outage stop": {Own: true}, service + " sipo fill stop outage": {Own: true}, service + " outage sipo stop back": {}} {
			w := at(t, cyclic, place+" start")
			if w.x.O != want {
				t.Errorf("%s: %+v, want %+v", w.what(), w.x.O, want)
			}
		}
		w := at(t, cyclic, "hurry start sin sin damage:4 stop start")
		if !w.x.A.Own || w.x.A.Tries() != 0 {
			t.Errorf("Own %v, Tries %d", w.x.A.Own, w.x.A.Tries())
		}
		if w.do("sin sin"); !w.x.C.On(0) {
			t.Error("it is no emergency any more")
		}
		w = at(t, cyclic, "start sin sie stop start sin sin")
		if !w.x.C.On(4) || w.x.C.On(0) {
			t.Error("the other side's emergency counts on")
		}
	}
}

// P17.2: Stop: ErrState of one that is out; else it is out of service: Stopped.
func TestStop(t *testing.T) {
	try(t, []row{
		{"", "stop", "ErrState", "out", "", ""},
		{"start stop", "stop", "ErrState", "out", "", ""},
		{"outage set:3:5", "stop", "ErrState", "out", "", "3:5"},
		{apart, "stop", "OK", "out", "OutOfService 10", ""},
		{near, "stop", "OK", "out", "OutOfService 10", ""},
		{tried, "stop", "OK", "out", "OutOfService 10", ""},
		{ready, "stop", "OK", "out", "OutOfService 10", ""},
		{notReady, "stop", "OK", "out", "OutOfService 10", ""},
		{service, "stop", "OK", "out", "OutOfService 10", ""},
		{waits + " jamin sib", "stop", "OK", "out", "OutOfService 10", ""},
		{waits + " outage", "stop", "OK", "out", "OutOfService 10", ""},
	})
}

// P17.2: Hurry, Calm: the Align's, in each state: proved by the short time from then on, where it is proved just now.
func TestHurryCalm(t *testing.T) {
	try(t, []row{
		{"", "hurry", "OK", "out", "", ""},
		{apart + " tick:3", "hurry", "OK", "aligning", "", "2:199"},
		{near + " tick:3", "hurry", "OK", "aligning", "", "3:300"},
		{tried + " tick:3", "hurry", "OK", "aligning", "", "0:11"},
		{"start sin sie tick:3", "hurry", "OK", "aligning", "", "0:8"},
		{tried + " tick:3 hurry tick:3", "hurry", "OK", "aligning", "", "0:8"},
		{tried + " hurry tick:3", "calm", "OK", "aligning", "", "0:8"},
		{"hurry start", "next", "SIO 127+ 127+", "aligning", "", "2:202"},
		{"hurry " + near, "next", "SIE 127+ 127+", "aligning", "", "3:303"},
		{"hurry " + near + " calm", "next", "SIN 127+ 127+", "aligning", "", "3:303"},
		{near + " hurry sin", "next", "SIE 127+ 127+", "aligning", "", "0:11"},
		{ready, "hurry", "OK", "ready", "", "1:998"},
		{notReady, "calm", "OK", "notready", "", "1:998"},
		{waits, "hurry", "OK", "service", "", "7:704"},
		{waits + " outage", "hurry", "OK", "halted", "", ""},
	})
	each(t, func(w *twin, was seen) {
		w.do("hurry")
		if !w.x.A.Own {
			t.Fatalf("%s: no emergency", w.what())
		}
		w.do("calm")
		if w.x.A.Own {
			t.Fatalf("%s: an emergency", w.what())
		}
	})
}

// P17.2: Send: ErrRefuse where it is neither in service nor halted, whatever the message is; else the Hold's answer.
func TestSend(t *testing.T) {
	var rows []row
	for _, p := range []string{":abc", ":ab", ":", ":#273", ":#274"} {
		for _, place := range []row{{"", "", "", "out", "", ""}, {waits + " stop", "", "", "out", "", ""}, {apart, "", "", "aligning", "", "2:202"}, {tried, "", "", "aligning", "", "4:44"}, {ready, "", "", "ready", "", "1:998"}, {notReady, "", "", "notready", "", "1:998"}} {
			place.call, place.answer = "send"+p, "ErrRefuse"
			rows = append(rows, place)
		}
		answers := map[string]string{":abc": "OK", ":ab": "ErrShort", ":": "ErrShort", ":#273": "OK", ":#274": "ErrLong"}
		for _, place := range []row{{service, "", "", "service", "", ""}, {waits, "", "", "service", "", "7:704"}, {waits + " jamin sib", "", "", "service", "", "5:55 6:606 7:707"}, {waits + " outage", "", "", "halted", "", ""}, {waits + " sipo fill", "", "", "halted", "", ""}} {
			place.call, place.answer = "send"+p, answers[p]
			rows = append(rows, place)
		}
	}
	try(t, rows)
}

// P17.2: Send until there is no room: by messages, and by octets; what there is no room for isn't sent, and with what is answered comes room.
func TestSendFull(t *testing.T) {
	for _, cyclic := range both {
		for _, place := range []string{service, service + " outage"} {
			w := at(t, cyclic, place)
			for i := range 16 {
				if e := w.do("send:abc"); e != "OK" {
					t.Fatalf("message %d: %s", i, e)
				}
			}
			if e := w.do("send:abc"); e != "ErrFull" || w.x.W.Hold().Next() != 16 {
				t.Fatalf("message 16: %s", e)
			}
			w = at(t, cyclic, place)
			w.do("send:#273 send:#273")
			if e := w.do("send:#55"); e != "ErrFull" {
				t.Errorf("an octet too many: %s", e)
			}
			if e := w.do("send:#54"); e != "OK" {
				t.Errorf("as many octets as may: %s", e)
			}
		}
		w := at(t, cyclic, service+" send:#273 send:#273 send:#54 next")
		if e := w.do("send:abc"); e != "ErrFull" {
			t.Errorf("%s", e)
		}
		if e := w.do("fill:0 send:#273"); e != "OK" {
			t.Errorf("with room: %s", e)
		}
	}
}

// P17.2: Outage, Back in each state, once and twice: of service it halts, ready is not ready, and back; of halted it goes on if nothing else is out.
func TestOutageBack(t *testing.T) {
	try(t, []row{
		{"", "outage", "OK", "out", "", ""},
		{"outage", "outage", "OK", "out", "", ""},
		{"outage", "back", "OK", "out", "", ""},
		{"", "back", "OK", "out", "", ""},
		{apart, "outage", "OK", "aligning", "", "2:202"},
		{tried, "outage", "OK", "aligning", "", "4:44"},
		{"outage " + tried, "back", "OK", "aligning", "", "4:44"},
		{ready, "outage", "OK", "notready", "", "1:998"},
		{ready + " outage", "outage", "OK", "notready", "", "1:998"},
		{ready, "back", "OK", "ready", "", "1:998"},
		{notReady, "outage", "OK", "notready", "", "1:998"},
		{notReady, "back", "OK", "ready", "", "1:998"},
		{notReady + " back", "back", "OK", "ready", "", "1:998"},
		{waits, "outage", "OK", "halted", "", ""},
		{waits + " outage", "outage", "OK", "halted", "", ""},
		{waits, "back", "OK", "service", "", "7:704"},
		{waits + " outage", "back", "OK", "service", "", "7:707"},
		{waits + " outage back tick:3", "back", "OK", "service", "", "7:704"},
		{waits + " sipo", "outage", "OK", "halted", "", ""},
		{waits + " sipo", "back", "OK", "halted", "", ""},
		{waits + " sipo outage", "back", "OK", "halted", "", ""},
		{waits + " sipo outage fill", "back", "OK", "halted", "", ""},
		{waits + " sipo outage fill back", "continue", "OK", "service", "", "7:707"},
		{notReady + " fill", "back", "OK", "service", "", ""},
		{notReady + " sipo", "back", "OK", "halted", "", ""},
	})
	each(t, func(w *twin, was seen) {
		w.do("outage")
		want := was.o
		want.Own = true
		if w.x.O != want {
			t.Fatalf("%s: %+v", w.what(), w.x.O)
		}
		w.do("back")
		want.Own = false
		if w.x.O != want {
			t.Fatalf("%s: %+v", w.what(), w.x.O)
		}
	})
}

// P17.2: Flush: the Hold's, in each state: what wasn't sent yet is thrown away, what waits still does, and nothing else happens.
func TestFlush(t *testing.T) {
	each(t, func(w *twin, was seen) {
		if e := w.do("flush"); e != "OK" {
			t.Fatalf("%s: %s", w.what(), e)
		}
		was.way.next, was.way.octets, was.way.rst = 0, was.way.waiting, 0
		if got := look(w.x); got != was {
			t.Fatalf("%s: %+v, want %+v", w.what(), got, was)
		}
	})
	try(t, []row{
		{waits, "flush", "OK", "service", "", "7:704"},
		{service + " send:abc flush", "next", "Fill 127+ 127+", "service", "", ""},
	})
}

// P17.2: Continue: ErrState while one is out; else level 3 isn't waited for any more, and of halted it goes on.
func TestContinue(t *testing.T) {
	try(t, []row{
		{"", "continue", "OK", "out", "", ""},
		{"outage", "continue", "ErrState", "out", "", ""},
		{apart, "continue", "OK", "aligning", "", "2:202"},
		{"outage " + apart, "continue", "ErrState", "aligning", "", "2:202"},
		{ready, "continue", "OK", "ready", "", "1:998"},
		{notReady, "continue", "ErrState", "notready", "", "1:998"},
		{waits, "continue", "OK", "service", "", "7:704"},
		{waits + " outage", "continue", "ErrState", "halted", "", ""},
		{waits + " sipo", "continue", "ErrState", "halted", "", ""},
		{waits + " sipo outage", "continue", "ErrState", "halted", "", ""},
		{waits + " sipo fill", "continue", "OK", "service", "", "7:707"},
		{waits + " sipo fill outage", "continue", "ErrState", "halted", "", ""},
		{waits + " sipo fill outage back", "continue", "OK", "service", "", "7:707"},
		{waits + " sipo fill continue tick:3", "continue", "OK", "service", "", "7:704"},
		{service + " sipo fill", "continue", "OK", "service", "", ""},
		{waits + " sipo fill continue", "sipo", "", "halted", "TheyOut", ""},
	})
}

// P17.2: JamIn, JamOut: ErrState where it is neither in service nor halted; else the Jam Begins, and Ends.
func TestJamInOut(t *testing.T) {
	var rows []row
	for _, call := range []string{"jamin", "jamout"} {
		rows = append(rows, []row{
			{"", call, "ErrState", "out", "", ""},
			{waits + " stop", call, "ErrState", "out", "", ""},
			{apart, call, "ErrState", "aligning", "", "2:202"},
			{tried, call, "ErrState", "aligning", "", "4:44"},
			{ready, call, "ErrState", "ready", "", "1:998"},
			{notReady, call, "ErrState", "notready", "", "1:998"},
		}...)
	}
	try(t, append(rows, []row{
		{service, "jamin", "OK", "service", "", "5:55"},
		{service + " jamin tick:9", "jamin", "OK", "service", "", "5:46"},
		{service + " jamin next tick:9 jamin", "next", "Fill 127+ 127+", "service", "", "5:46"},
		{service, "jamout", "OK", "service", "", ""},
		{waits + " jamin", "jamout", "OK", "service", "", "7:704"},
		{waits + " jamin jamout", "jamout", "OK", "service", "", "7:704"},
		{service + " jamin jamout", "next", "Fill 127+ 127+", "service", "", ""},
		{service + " jamin jamout jamin tick:2", "next", "SIB 127+ 127+", "service", "", "5:53"},
		{service + " outage", "jamin", "OK", "halted", "", "5:55"},
		{service + " outage jamin tick:9", "jamin", "OK", "halted", "", "5:46"},
		{service + " outage jamin tick:9", "jamout", "OK", "halted", "", ""},
		{service + " sipo", "jamin", "OK", "halted", "", "5:55"},
		{service + " sib", "jamout", "OK", "service", "", "6:606"},
	}...))
}

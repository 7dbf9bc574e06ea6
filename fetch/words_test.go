package fetch_test

import (
	"fmt"
	"strconv"
	"strings"
	"testing"

	"signalman/api"
	"signalman/fetch"
	"signalman/outage"
	"signalman/setup"
	"signalman/state"
)

// both is whether a method is the cyclic one.
var both = []bool{false, true}

// set is a setup whose timers are short, and that holds as much as may wait.
func set(cyclic bool) api.Setup {
	s := setup.Usual(cyclic)
	s.Hold, s.Octets, s.N1, s.N2 = 400, 100000, api.Window, 100000
	s.T = [8]int{11, 1001, 202, 303, 44, 55, 606, 707}
	return s
}

// Places that a link is brought to, by words.
const (
	ready   = "start sin sin tick:44"
	service = ready + " fill"
	waits   = service + " send:0:3 next:2"
	busy    = service + " send:0:3 next:2 take:0:5 free:0"
)

// kept are places out of service, and what is told of a link there: the number of the last message that it took, those that were answered, sent and handed in.
var kept = []struct {
	place             string
	taken             uint8
	freed, sent, last int
}{
	{"", 127, 0, 0, 0},
	{"outage", 127, 0, 0, 0},
	{"start stop", 127, 0, 0, 0},
	{"outage hurry start sin stop", 127, 0, 0, 0},
	{ready + " stop", 127, 0, 0, 0},
	{ready + " tick:1001", 127, 0, 0, 0},
	{service + " stop", 127, 0, 0, 0},
	{service + " send:0:3 stop", 127, 0, 0, 3},
	{waits + " stop", 127, 0, 2, 3},
	{waits + " sios", 127, 0, 2, 3},
	{waits + " sio", 127, 0, 2, 3},
	{waits + " damage:64", 127, 0, 2, 3},
	{waits + " tick:707", 127, 0, 2, 3},
	{waits + " flush stop", 127, 0, 2, 2},
	{waits + " stop flush", 127, 0, 2, 2},
	{waits + " free:0 stop", 127, 1, 2, 3},
	{waits + " free:1 stop", 127, 2, 2, 3},
	{waits + " next free:2 stop", 127, 3, 3, 3},
	{waits + " sipo sin", 127, 0, 2, 3},
	{waits + " outage stop back", 127, 0, 2, 3},
	{service + " take:0:1 stop", 0, 0, 0, 0},
	{ready + " take:0:2 stop", 1, 0, 0, 0},
	{service + " outage take:0:9 stop", 127, 0, 0, 0},
	{service + " take:0:4 jamin take:4:9 stop", 3, 0, 0, 0},
	{busy + " stop", 4, 1, 2, 3},
	{busy + " stop start stop", 127, 0, 0, 0},
	{busy + " stop " + busy + " sios", 4, 1, 2, 3},
	{busy + " fail:4 take:5:8 free:1 sin sipo fill next:3 tick:9 damage:9", 4, 1, 2, 3},
	{service + " take:0:128 stop", 127, 0, 0, 0},
	{service + " take:0:130 send:0:200 next:100 free:98 stop", 1, 99, 100, 200},
}

// uses are places where a link isn't out of service, and its state there.
var uses = []struct {
	place string
	state byte
}{
	{"start", state.Aligning}, {"outage hurry start", state.Aligning}, {"start sin sin", state.Aligning}, {busy + " stop start", state.Aligning},
	{ready, state.Ready}, {"hurry start sin sin tick:11", state.Ready}, {ready + " outage back", state.Ready}, {busy + " stop " + ready, state.Ready},
	{"outage " + ready, state.NotReady}, {ready + " outage", state.NotReady},
	{service, state.Service}, {waits, state.Service}, {busy, state.Service}, {busy + " sib jamin", state.Service},
	{service + " sipo", state.Halted}, {waits + " outage", state.Halted}, {busy + " sipo fill", state.Halted}, {busy + " sipo outage", state.Halted},
}

// orders are the words of orders.
var orders = map[string]byte{"start": api.Start, "stop": api.Stop, "hurry": api.Hurry, "calm": api.Calm, "outage": api.Outage, "back": api.Back, "flush": api.Flush, "continue": api.Continue, "jamin": api.JamIn, "jamout": api.JamOut}

// statuses are the words of units that tell a status.
var statuses = map[string]byte{"sio": api.SIO, "sin": api.SIN, "sie": api.SIE, "sios": api.SIOS, "sipo": api.SIPO, "sib": api.SIB}

// message is the i-th message that is handed in.
func message(i int) []byte { return fmt.Appendf(nil, "message %d", i) }

// messages are those from one up to another, that one left out.
func messages(from, to int) [][]byte {
	var all [][]byte
	for i := from; i < to; i++ {
		all = append(all, message(i))
	}
	return all
}

// number is a part of a word as a number.
func number(parts []string, i int, otherwise int) int {
	if i >= len(parts) {
		return otherwise
	}
	n, err := strconv.Atoi(parts[i])
	if err != nil {
		panic(err)
	}
	return n
}

// quiet is a right unit that answers nothing, and brings nothing.
func quiet(x *state.State) api.Unit {
	return api.Unit{BSN: (x.W.Hold().First() + 127) % 128, FSN: x.W.Taken(), BIB: true, FIB: true}
}

// say says a word to a State, and tells what is answered.
func say(x *state.State, word string) string {
	p := strings.Split(word, ":")
	if kind, ok := orders[p[0]]; ok {
		return fmt.Sprint(x.Order(api.Order{Kind: kind}))
	}
	u := quiet(x)
	if status, ok := statuses[p[0]]; ok {
		u.Kind, u.Status = api.Link, status
		x.Hear(u)
		return ""
	}
	n := number(p, 1, 1)
	switch p[0] {
	case "fill":
		x.Hear(u)
	case "free":
		u.BSN = uint8(n % 128)
		x.Hear(u)
	case "take":
		for i := n; i < number(p, 2, n+1); i++ {
			u := quiet(x)
			u.Kind, u.FSN, u.Info = api.Signal, uint8(i%128), message(i)
			x.Hear(u)
		}
	case "send":
		text := ""
		for i := n; i < number(p, 2, n+1); i++ {
			text += fmt.Sprint(x.Order(api.Order{Kind: api.Send, P: message(i)}), " ")
		}
		return text
	case "next":
		text := ""
		for range n {
			text += fmt.Sprintf("%+v ", x.Next())
		}
		return text
	case "tick":
		for range n {
			x.Tick()
		}
	case "damage":
		for range n {
			x.Damage()
		}
	case "fail":
		x.Fail(byte(n))
	default:
		panic("no word: " + word)
	}
	return ""
}

// do says words to a State, and tells what is answered.
func do(x *state.State, words string) string {
	text := ""
	for _, word := range strings.Fields(words) {
		text += say(x, word) + "; "
	}
	return text
}

// at is a State that is brought to a place.
func at(cyclic bool, place string) *state.State {
	x := state.New(set(cyclic))
	do(x, place)
	return x
}

// seen is all that a State tells, but for what it told.
type seen struct {
	s           byte
	left        [8]int
	how, sends  byte
	hurry       bool
	tries       int
	own, their  bool
	o           outage.Outage
	fill        string
	taken       uint8
	resends     bool
	first, last uint8
	sent, next  int
	octets      int
	waiting     int
	size        int
	rest        string
	fails       int
	wrong       int
}

// look is what a State tells.
func look(x *state.State) seen {
	var l [8]int
	for i := range l {
		l[i] = x.C.Left(i)
	}
	h := x.W.Hold()
	rest := ""
	for n := range 256 {
		all, e := h.Rest(uint8(n))
		rest += fmt.Sprintf("%d: %q, ", e, all)
	}
	return seen{
		s: x.S, left: l, how: x.A.State, sends: x.A.Sends(), hurry: x.A.Own, tries: x.A.Tries(), own: x.J.Own, their: x.J.Their, o: x.O,
		fill: fmt.Sprintf("%+v", x.W.Fill()), taken: x.W.Taken(), resends: x.W.Resends(),
		first: h.First(), last: h.Last(), sent: h.Sent(), next: h.Next(), octets: h.Octets(), waiting: h.Waiting(), size: h.Size(), rest: rest,
		fails: x.Fails(), wrong: x.Wrong(),
	}
}

// same: are two lists of messages the same?
func same(a, b [][]byte) bool { return fmt.Sprintf("%q", a) == fmt.Sprintf("%q", b) }

// wantNumber holds what BSNT answers against what it should.
func wantNumber(t *testing.T, what string, x *state.State, n uint8, e api.Errno) {
	t.Helper()
	if gotN, gotE := fetch.BSNT(x); gotN != n || gotE != e {
		t.Fatalf("%s: BSNT: %d, %d, want %d, %d", what, gotN, gotE, n, e)
	}
}

// wantList holds what Messages answers against what it should.
func wantList(t *testing.T, what string, x *state.State, fsnc uint8, all [][]byte, e api.Errno) {
	t.Helper()
	if got, gotE := fetch.Messages(x, fsnc); !same(got, all) || gotE != e {
		t.Fatalf("%s: Messages(%d): %q, %d, want %q, %d", what, fsnc, got, gotE, all, e)
	}
}

// wantChange holds what Change answers against what it should.
func wantChange(t *testing.T, what string, a, b *state.State, ofA, ofB [][]byte, e api.Errno) {
	t.Helper()
	if gotA, gotB, gotE := fetch.Change(a, b); !same(gotA, ofA) || !same(gotB, ofB) || gotE != e {
		t.Fatalf("%s: Change: %q, %q, %d, want %q, %q, %d", what, gotA, gotB, gotE, ofA, ofB, e)
	}
}

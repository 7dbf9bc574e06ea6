package state_test

import (
	"fmt"
	"strconv"
	"strings"
	"testing"

	"signalman/api"
	"signalman/outage"
	"signalman/setup"
	"signalman/state"
	"signalman/way"
)

// both is whether something is so, of either kind; of a method: is it the cyclic one?
var both = []bool{false, true}

// times are the timers of set: no two alike.
var times = [8]int{11, 1001, 202, 303, 44, 55, 606, 707}

// set is a setup whose timers are told one from another.
func set(cyclic bool) api.Setup {
	s := setup.Usual(cyclic)
	s.T = times
	return s
}

// Places that a link is brought to, by words. What waits are the messages 0 and 1, and one more wasn't sent yet.
const (
	apart    = "start"
	near     = "start sin"
	tried    = "start sin sin"
	ready    = tried + " tick:44 tick:3"
	notReady = "outage " + ready
	service  = ready + " fill"
	waits    = service + " send:one send:two send:three next next tick:3"
)

// places are the places that all calls are tried at: of each state some, with and without what waits, is out, is busy, and wasn't right.
var places = []string{
	"", "outage", "hurry", "start stop", "outage start stop", waits + " stop", waits + " sipo sios",
	apart, "outage start tick:3", "hurry start tick:3", "start damage", "start sie", near, near + " tick:3", "outage hurry " + near,
	tried, tried + " tick:3", "start sin sie tick:3", "hurry " + tried, "outage " + tried, tried + " damage:3", tried + " damage:16 tick:3", tried + " damage:19", "start sin sie damage:4", tried + " sio", "start sie sin hurry calm",
	ready, ready + " damage:63", "hurry " + tried + " tick:11", "start sin sie tick:11 tick:5",
	notReady, notReady + " damage:63", ready + " outage", notReady + " back",
	service, waits, service + " send:abc", waits + " damage:63", waits + " fill:0 tick:3", waits + " fill:1",
	service + " jamin", service + " jamin next tick:3", waits + " jamin tick:3", waits + " jamin next tick:3", waits + " jamin next jamout",
	service + " sib tick:3", waits + " sib tick:3", waits + " jamin next sib tick:3", waits + " sib send:four fill:0 tick:3",
	service + " fill:99", service + " fill:99 fill", service + " fill:127:127:F", waits + " fill:99:127:F", waits + " signal:127:0:abc", waits + " signal:127:1:abc", waits + " fill:0:127:B",
	service + " outage", notReady + " fill", waits + " outage tick:3", waits + " jamin sib outage",
	service + " sipo", waits + " sipo tick:3", ready + " sipo", notReady + " sipo",
	service + " sipo fill", waits + " sipo fill tick:3", waits + " sipo outage", waits + " sipo fill outage", waits + " outage sipo fill", waits + " sipo outage back",
	service + " outage jamin", waits + " sipo jamin tick:3", waits + " sipo fill jamin", waits + " outage fill:99",
}

// link is what words can be said to: a State, or the model.
type link interface {
	Order(o api.Order) api.Errno
	Tick()
	Hear(u api.Unit)
	Damage()
	Next() api.Unit
	Fail(why byte)
	Told() []api.Told
	Fails() int
	Wrong() int
}

// kinds are the words of orders.
var kinds = map[string]byte{"start": api.Start, "stop": api.Stop, "hurry": api.Hurry, "calm": api.Calm, "send": api.Send, "outage": api.Outage, "back": api.Back, "flush": api.Flush, "continue": api.Continue, "jamin": api.JamIn, "jamout": api.JamOut}

// statuses are the words of units that tell a status.
var statuses = map[string]byte{"sio": api.SIO, "sin": api.SIN, "sie": api.SIE, "sios": api.SIOS, "sipo": api.SIPO, "sib": api.SIB}

// part is the i-th part of a word, or what stands for it.
func part(parts []string, i int, else_ string) string {
	if i < len(parts) && parts[i] != "" {
		return parts[i]
	}
	return else_
}

// number is a part of a word as a number.
func number(parts []string, i int, else_ int) int {
	n, err := strconv.Atoi(part(parts, i, strconv.Itoa(else_)))
	if err != nil {
		panic(err)
	}
	return n
}

// octets is a message: the word itself, or behind # how many octets it has.
func octets(text string) []byte {
	if strings.HasPrefix(text, "#") {
		n, _ := strconv.Atoi(text[1:])
		return []byte(strings.Repeat("x", n))
	}
	return []byte(text)
}

// heard is a unit that a word tells, with both indicators set but for those that B and F turn: fill:BSN:FSN:turned, signal:BSN:FSN:text:turned, link:status, kind:number:BSN:FSN:text.
func heard(p []string) (api.Unit, bool) {
	u := api.Unit{BSN: 127, FSN: 127, BIB: true, FIB: true}
	status, ok := statuses[p[0]]
	turned := ""
	switch {
	case ok:
		u.Kind, u.Status = api.Link, status
	case p[0] == "link":
		u.Kind, u.Status = api.Link, byte(number(p, 1, 0))
	case p[0] == "fill":
		u.BSN, u.FSN, turned = uint8(number(p, 1, 127)), uint8(number(p, 2, 127)), part(p, 3, "")
	case p[0] == "signal":
		u.Kind, u.BSN, u.FSN, u.Info, turned = api.Signal, uint8(number(p, 1, 127)), uint8(number(p, 2, 0)), octets(part(p, 3, "xyz")), part(p, 4, "")
	case p[0] == "kind":
		u.Kind, u.BSN, u.FSN, u.Info = byte(number(p, 1, 3)), uint8(number(p, 2, 127)), uint8(number(p, 3, 127)), octets(part(p, 4, ""))
	default:
		return u, false
	}
	u.BIB, u.FIB = !strings.Contains(turned, "B"), !strings.Contains(turned, "F")
	return u, true
}

// say says a word to a link, and tells what is answered.
func say(x link, word string) string {
	p := strings.Split(word, ":")
	if kind, ok := kinds[p[0]]; ok {
		return errnoName(x.Order(api.Order{Kind: kind, P: octets(part(p, 1, ""))}))
	}
	if u, ok := heard(p); ok {
		x.Hear(u)
		return ""
	}
	switch p[0] {
	case "order":
		return errnoName(x.Order(api.Order{Kind: byte(number(p, 1, 0)), P: octets(part(p, 2, ""))}))
	case "fail":
		x.Fail(byte(number(p, 1, 0)))
	case "tick":
		x.Tick()
	case "damage":
		x.Damage()
	case "next":
		return unitText(x.Next())
	case "told":
		return toldText(x.Told())
	default:
		panic("no word: " + word)
	}
	return ""
}

// errnoName is an error's name.
func errnoName(e api.Errno) string {
	names := []string{"OK", "ErrArg", "ErrNone", "ErrFull", "ErrForm", "ErrShort", "ErrLong", "ErrCheck", "ErrWhole", "ErrState", "ErrRange", "ErrWord", "ErrRefuse"}
	return names[e]
}

// unitText is all that a unit says: its kind, status or message, numbers, and a + behind each whose indicator is set.
func unitText(u api.Unit) string {
	sign := map[bool]string{true: "+", false: "-"}
	text := fmt.Sprintf("kind %d", u.Kind)
	switch {
	case u.Kind == api.Fill:
		text = "Fill"
	case u.Kind == api.Link:
		text = []string{"SIO", "SIN", "SIE", "SIOS", "SIPO", "SIB"}[u.Status]
	case u.Kind == api.Signal:
		text = "Signal " + string(u.Info)
	}
	if u.Wide || u.Kind != api.Link && u.Status != 0 || u.Kind != api.Signal && len(u.Info) > 0 {
		text += fmt.Sprintf(" with %v, %d, %q", u.Wide, u.Status, u.Info)
	}
	return fmt.Sprintf("%s %d%s %d%s", text, u.BSN, sign[u.BIB], u.FSN, sign[u.FIB])
}

// toldText is all that is told, in order.
func toldText(l []api.Told) string {
	var all []string
	for _, x := range l {
		text := []string{"", "InService", "OutOfService", "Message", "TheyOut", "TheyIn", "JamOn", "JamOff"}[x.Kind]
		if x.Kind == api.OutOfService || x.Why != 0 {
			text += fmt.Sprint(" ", x.Why)
		}
		if x.Kind == api.Message || len(x.P) > 0 {
			text += " " + string(x.P)
		}
		all = append(all, text)
	}
	return strings.Join(all, ", ")
}

// timersText is what is left of the timers that run.
func timersText(l [8]int) string {
	var all []string
	for i, left := range l {
		if left != 0 {
			all = append(all, fmt.Sprintf("%d:%d", i, left))
		}
	}
	return strings.Join(all, " ")
}

// seen is all that a link tells at once, but for the kinds of what it told.
type seen struct {
	state           string
	left            [8]int
	o               outage.Outage
	how             string
	hurry           bool
	sends           byte
	tries           int
	ownJam, theyJam bool
	way             seenWay
	fails, wrong    int
}

// seenWay is all that a way tells at once.
type seenWay struct {
	bsn, fsn             uint8
	bib, fib             bool
	taken                uint8
	resends              bool
	first, last          uint8
	sent, next           int
	octets, waiting, rst int
}

// look is what a State tells.
func look(x *state.State) seen {
	var l [8]int
	for i := range l {
		l[i] = x.C.Left(i)
	}
	return seen{
		state:   state.Name(x.S),
		left:    l,
		o:       x.O,
		how:     []string{"idle", "apart", "near", "tried"}[x.A.State],
		hurry:   x.A.Own,
		sends:   x.A.Sends(),
		tries:   x.A.Tries(),
		ownJam:  x.J.Own,
		theyJam: x.J.Their,
		way:     lookAt(x.W),
		fails:   x.Fails(),
		wrong:   x.Wrong(),
	}
}

// lookAt is what a way tells.
func lookAt(w way.Way) seenWay {
	u, h := w.Fill(), w.Hold()
	return seenWay{bsn: u.BSN, fsn: u.FSN, bib: u.BIB, fib: u.FIB, taken: w.Taken(), resends: w.Resends(),
		first: h.First(), last: h.Last(), sent: h.Sent(), next: h.Next(), octets: h.Octets(), waiting: h.Waiting(), rst: h.Size()}
}

// twin is a State and a model of it that are told the same.
type twin struct {
	t    *testing.T
	s    api.Setup
	x    *state.State
	m    *model
	done []string
}

func newTwin(t *testing.T, s api.Setup) *twin {
	return &twin{t: t, s: s, x: state.New(s), m: newModel(s)}
}

// do says words to both, and holds what they answer, and tell then, against each other. The last word's answer is answered. A number behind tick, damage and next says how often; set starts a timer by hand.
func (w *twin) do(words string) string {
	w.t.Helper()
	answer := ""
	for _, word := range strings.Fields(words) {
		p := strings.Split(word, ":")
		w.done = append(w.done, word)
		often := 1
		switch p[0] {
		case "set":
			i, n := number(p, 1, 0), number(p, 2, 1)
			w.x.C.Start(i, n)
			w.m.ends[i] = w.m.now + n
			continue
		case "tick", "damage", "next":
			often, word = number(p, 1, 1), p[0]
		}
		for range often {
			answer = w.once(word)
		}
	}
	return answer
}

// once says one word once.
func (w *twin) once(word string) string {
	w.t.Helper()
	got, want := say(w.x, word), say(w.m, word)
	if got != want {
		w.t.Fatalf("%s: %q, want %q", w.what(), got, want)
	}
	if got, want := look(w.x), w.m.look(); got != want {
		w.t.Fatalf("%s:\n%+v, want\n%+v", w.what(), got, want)
	}
	return got
}

// what is the words so far: of many the last ones alone.
func (w *twin) what() string {
	l := w.done
	if len(l) > 300 {
		l = l[len(l)-300:]
	}
	return strings.Join(l, " ")
}

// at brings a State, and a model, to a place; what is told on the way is asked.
func at(t *testing.T, cyclic bool, place string) *twin {
	t.Helper()
	w := newTwin(t, set(cyclic))
	w.do(place)
	w.do("told")
	return w
}

// row is a call at a place, and what is to be seen of it: what is answered, the state, what is told, what is left of the timers.
type row struct{ place, call, answer, state, told, timers string }

// try tries rows by both methods.
func try(t *testing.T, rows []row) {
	t.Helper()
	for _, cyclic := range both {
		for _, r := range rows {
			w := at(t, cyclic, r.place)
			answer := w.do(r.call)
			s := look(w.x)
			if got := (row{r.place, r.call, answer, s.state, w.do("told"), timersText(s.left)}); got != r {
				t.Errorf("cyclic %v:\n%+v, want\n%+v", cyclic, got, r)
			}
		}
	}
}

// each brings a State to each place, by both methods.
func each(t *testing.T, f func(w *twin, was seen)) {
	t.Helper()
	for _, cyclic := range both {
		for _, place := range places {
			w := at(t, cyclic, place)
			f(w, look(w.x))
		}
	}
}

// The places are of each state, so that what is tried at each of them is tried in each.
func TestPlaces(t *testing.T) {
	many := map[string]int{}
	each(t, func(w *twin, was seen) { many[was.state]++ })
	for s := range byte(6) {
		if many[state.Name(s)] < 6 {
			t.Errorf("%s: %d", state.Name(s), many[state.Name(s)])
		}
	}
}

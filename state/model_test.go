package state_test

import (
	"signalman/api"
	"signalman/outage"
	"signalman/way"
)

// model is a link by the chapters' words. What is so of it stands in one set of words; of each timer it keeps at which tick that runs out. Its way is one of its own, told the same.
type model struct {
	state string
	is    map[string]bool
	now   int
	ends  map[int]int
	times [8]int
	how   string // how far it is in coming into line
	quick bool
	bad   int // units that weren't right, of a proof
	tries int
	wrong int
	seen  int
	w     way.Way
	told  []api.Told
	fails int
}

// theirs is what is forgotten of the other side, and jams what is while nobody is busy.
var (
	outs   = []string{"own out", "their out", "wait"}
	theirs = []string{"their out", "wait"}
	jams   = []string{"own jam", "their jam", "due"}
)

func newModel(s api.Setup) *model {
	return &model{state: "out", how: "idle", is: map[string]bool{}, ends: map[int]int{}, times: s.T, w: way.New(s)}
}

func (m *model) any(words ...string) bool {
	for _, w := range words {
		if m.is[w] {
			return true
		}
	}
	return false
}

func (m *model) drop(words ...string) {
	for _, w := range words {
		delete(m.is, w)
	}
}

func (m *model) in(states ...string) bool {
	for _, s := range states {
		if m.state == s {
			return true
		}
	}
	return false
}

func (m *model) start(timer int) { m.ends[timer] = m.now + m.times[timer] }

func (m *model) stop(timers ...int) {
	for _, i := range timers {
		delete(m.ends, i)
	}
}

func (m *model) say(kind byte) { m.told = append(m.told, api.Told{Kind: kind}) }

// Fail: out of service; of what was so an emergency of this side's own and its own outage alone stay.
func (m *model) Fail(why byte) {
	if m.state == "out" {
		return
	}
	own, hurry := m.is["own out"], m.is["own hurry"]
	m.is = map[string]bool{"own out": own, "own hurry": hurry}
	m.ends = map[int]int{}
	m.state, m.how = "out", "idle"
	m.wrong, m.seen = 0, 0
	m.fails++
	m.told = append(m.told, api.Told{Kind: api.OutOfService, Why: why})
}

func (m *model) halt() {
	m.state = "halted"
	m.drop(jams...)
	m.stop(5, 6, 7)
}

func (m *model) goOn() {
	if m.state == "halted" && !m.any(outs...) {
		m.state = "service"
		m.startIfWaiting()
	}
}

func (m *model) startIfWaiting() {
	if _, on := m.ends[7]; !on && m.w.Hold().Sent() != 0 {
		m.start(7)
	}
}

func (m *model) serve() {
	m.stop(1)
	m.state = "service"
	m.say(api.InService)
	if m.any(outs...) {
		m.halt()
	}
}

func (m *model) Order(o api.Order) api.Errno {
	switch o.Kind {
	case api.Start:
		if m.state != "out" {
			return api.ErrState
		}
		m.w.Reset()
		m.state, m.how = "aligning", "apart"
		m.tries, m.wrong, m.seen = 0, 0, 0
		m.drop(theirs...)
		m.drop("their hurry")
		m.stop(0, 3, 4)
		m.start(2)
	case api.Stop:
		if m.state == "out" {
			return api.ErrState
		}
		m.Fail(api.Stopped)
	case api.Hurry:
		m.hurry("own hurry")
	case api.Calm:
		m.drop("own hurry")
	case api.Send:
		if !m.in("service", "halted") {
			return api.ErrRefuse
		}
		return m.w.Hold().Put(o.P)
	case api.Outage:
		m.is["own out"] = true
		switch m.state {
		case "service":
			m.halt()
		case "ready":
			m.state = "notready"
		}
	case api.Back:
		m.drop("own out")
		m.goOn()
		if m.state == "notready" {
			m.state = "ready"
		}
	case api.Flush:
		m.w.Hold().Flush()
	case api.Continue:
		if m.any("own out", "their out") {
			return api.ErrState
		}
		m.drop("wait")
		m.goOn()
	case api.JamIn, api.JamOut:
		return m.jam(o.Kind)
	default:
		return api.ErrArg
	}
	return api.OK
}

func (m *model) jam(kind byte) api.Errno {
	switch {
	case !m.in("service", "halted"):
		return api.ErrState
	case kind == api.JamOut:
		m.drop("own jam", "due")
		m.stop(5)
	case !m.is["own jam"]:
		m.is["own jam"], m.is["due"] = true, true
		m.start(5)
	}
	return api.OK
}

// hurry: a side says that it is an emergency.
func (m *model) hurry(who string) {
	was := m.any("own hurry", "their hurry")
	m.is[who] = true
	if !was && m.how == "tried" {
		m.prove()
	}
}

func (m *model) prove() {
	m.how, m.bad = "tried", 0
	m.quick = m.any("own hurry", "their hurry")
	m.stop(0, 2, 3, 4)
	if m.quick {
		m.start(0)
	} else {
		m.start(4)
	}
}

func (m *model) near() {
	m.how = "near"
	m.stop(0, 2, 4)
	m.start(3)
}

func (m *model) Tick() {
	m.now++
	var out []int
	for i := range 8 {
		if m.ends[i] == m.now {
			out = append(out, i)
			delete(m.ends, i)
		}
	}
	for _, i := range out {
		m.out(i)
	}
}

// out: a timer ran out, in each state.
func (m *model) out(timer int) {
	if m.state == "aligning" {
		m.outAligning(timer)
		return
	}
	if m.state == "out" {
		return
	}
	switch timer {
	case 1:
		if m.in("ready", "notready") {
			m.Fail(api.NotReady)
		}
	case 5:
		if m.is["own jam"] {
			m.is["due"] = true
			m.start(5)
		}
	case 6:
		if m.is["their jam"] {
			m.Fail(api.Busy)
		}
	case 7:
		if m.state == "service" {
			m.Fail(api.NoAnswer)
		}
	}
}

func (m *model) outAligning(timer int) {
	switch {
	case m.how == "apart" && timer == 2, m.how == "near" && timer == 3:
		m.Fail(api.NoAlign)
	case m.how == "tried" && (timer == 0 || timer == 4):
		m.how = "idle"
		m.drop("their hurry")
		m.stop(0, 2, 3, 4)
		m.state = "ready"
		if m.is["own out"] {
			m.state = "notready"
		}
		m.start(1)
	}
}

func (m *model) Damage() { m.count(true) }

func (m *model) count(wrong bool) {
	if m.state == "out" {
		return
	}
	if m.state == "aligning" {
		m.countAligning(wrong)
		return
	}
	if m.wrong > 0 {
		m.seen++
	}
	if m.seen == 256 {
		m.wrong, m.seen = m.wrong-1, 0
	}
	if wrong {
		m.wrong++
		if m.wrong == 1 {
			m.seen = 0
		}
	}
	if m.wrong == 64 {
		m.Fail(api.ErrorRate)
	}
}

func (m *model) countAligning(wrong bool) {
	if m.how != "tried" || !wrong {
		return
	}
	m.bad++
	if m.bad < 4 && !m.quick {
		return
	}
	m.bad = 0
	m.tries++
	if m.tries == 5 {
		m.Fail(api.Proving)
		return
	}
	m.prove()
}

func (m *model) Hear(u api.Unit) {
	m.count(false)
	link := u.Kind == api.Link
	switch m.state {
	case "out":
	case "aligning":
		if link {
			m.hearAligning(u.Status)
		}
	default:
		if link {
			m.hearLink(u.Status)
		} else {
			m.hearOther(u)
		}
	}
}

func (m *model) hearAligning(status byte) {
	switch status {
	case api.SIOS:
		if m.how != "apart" {
			m.Fail(api.TheirStop)
		}
		return
	case api.SIO:
		if m.how != "near" {
			m.near()
		}
		return
	case api.SIN, api.SIE:
	default:
		return
	}
	if m.how == "near" {
		m.tries = 0
	}
	if status == api.SIE {
		m.hurry("their hurry")
	}
	switch m.how {
	case "apart":
		m.near()
	case "near":
		m.prove()
	}
}

func (m *model) hearLink(status byte) {
	used := m.in("service", "halted")
	switch status {
	case api.SIOS:
		m.Fail(api.TheirStop)
	case api.SIO:
		m.Fail(api.TheirAlign)
	case api.SIN, api.SIE:
		if used {
			m.Fail(api.TheirAlign)
		}
	case api.SIPO:
		if !used {
			m.serve()
		}
		if !m.is["their out"] {
			m.say(api.TheyOut)
		}
		m.is["their out"], m.is["wait"] = true, true
		if m.state == "service" {
			m.halt()
		}
	case api.SIB:
		if m.state == "service" {
			m.hearJam()
		}
	}
}

func (m *model) hearJam() {
	if m.w.Hold().Sent() > 0 {
		m.start(7)
	}
	if !m.is["their jam"] {
		m.is["their jam"] = true
		m.start(6)
		m.say(api.JamOn)
	}
}

func (m *model) hearOther(u api.Unit) {
	if m.in("ready", "notready") {
		m.serve()
	}
	if m.is["their out"] {
		m.drop("their out")
		m.say(api.TheyIn)
		m.goOn()
	}
	n, e := m.w.Answer(u)
	if e != api.OK {
		m.Fail(api.Unfit)
		return
	}
	none := m.w.Hold().Sent() == 0
	if n != 0 && m.state == "service" {
		m.stop(7)
		m.startIfWaiting()
	}
	if m.is["their jam"] && (n != 0 || none) {
		m.drop("their jam")
		m.stop(6)
		m.say(api.JamOff)
	}
	if m.any("own out", "own jam") {
		return
	}
	p, taken, e := m.w.Take(u)
	if e != api.OK {
		m.Fail(api.Unfit)
	} else if taken {
		m.told = append(m.told, api.Told{Kind: api.Message, P: p})
	}
}

func (m *model) Next() api.Unit {
	u := m.w.Fill()
	switch m.state {
	case "out", "aligning":
		u.Kind, u.Status = api.Link, m.sends()
	case "notready", "halted":
		if m.is["own out"] {
			u.Kind, u.Status = api.Link, api.SIPO
		}
	case "service":
		if m.is["due"] {
			m.drop("due")
			u.Kind, u.Status = api.Link, api.SIB
			break
		}
		u = m.w.Next()
		if m.w.Hold().Sent() == 0 {
			m.stop(7)
		}
		m.startIfWaiting()
	}
	return u
}

// sends is the status that is told while it comes into line.
func (m *model) sends() byte {
	switch {
	case m.how == "idle":
		return api.SIOS
	case m.how == "apart":
		return api.SIO
	case m.is["own hurry"]:
		return api.SIE
	}
	return api.SIN
}

func (m *model) Told() []api.Told {
	l := m.told
	m.told = nil
	return l
}

func (m *model) Fails() int { return m.fails }

func (m *model) Wrong() int { return m.wrong }

func (m *model) left() [8]int {
	var l [8]int
	for i, at := range m.ends {
		l[i] = at - m.now
	}
	return l
}

// look is all that the model tells at once.
func (m *model) look() seen {
	return seen{
		state:   m.state,
		left:    m.left(),
		o:       outage.Outage{Own: m.is["own out"], Their: m.is["their out"], Wait: m.is["wait"]},
		how:     m.how,
		hurry:   m.is["own hurry"],
		sends:   m.sends(),
		tries:   m.tries,
		ownJam:  m.is["own jam"],
		theyJam: m.is["their jam"],
		way:     lookAt(m.w),
		fails:   m.fails,
		wrong:   m.wrong,
	}
}

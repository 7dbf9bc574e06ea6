package align_test

import (
	"fmt"
	"math/rand"
	"testing"

	"signalman/align"
	"signalman/api"
	"signalman/clock"
)

// The calls of an Align that may change it, and a tick.
const (
	begin = iota
	end
	hurry
	heardStatus
	unit
	out
	tick
)

// call is one of them, with what it is given.
type call struct {
	kind int
	on   bool
	n    int
}

// answer is what a call answers.
type answer struct {
	done bool
	why  byte
}

// told is what calls can be made of: an Align, or the model.
type told interface {
	Begin()
	End()
	Hurry(on bool)
	Heard(status byte) byte
	Unit(wrong bool) byte
	Out(timer int) (bool, byte)
}

// do makes a call, but for a tick, which is the clock's.
func (x call) do(a told) answer {
	switch x.kind {
	case begin:
		a.Begin()
	case end:
		a.End()
	case hurry:
		a.Hurry(x.on)
	case heardStatus:
		return answer{why: a.Heard(byte(x.n))}
	case unit:
		return answer{why: a.Unit(x.on)}
	case out:
		done, why := a.Out(x.n)
		return answer{done, why}
	}
	return answer{}
}

// chance is a call by chance, by which an Align is proved for some while mostly.
func chance(r *rand.Rand) call {
	switch n := r.Intn(1000); {
	case n < 20:
		return call{kind: begin}
	case n < 25:
		return call{kind: end}
	case n < 60:
		return call{kind: hurry, on: r.Intn(3) == 0}
	case n < 300:
		return call{kind: heardStatus, n: []int{0, 1, 1, 1, 2, 3, 4, 5, r.Intn(256)}[r.Intn(9)]}
	case n < 700:
		return call{kind: unit, on: r.Intn(3) == 0}
	case n < 740:
		return call{kind: out, n: r.Intn(12) - 2}
	}
	return call{kind: tick}
}

// model is an Align, and its eight timers, by the chapter's words. It keeps at which tick a timer runs out, and the units that weren't right.
type model struct {
	state      string
	own, their bool
	quickly    bool // the Proof's hurry
	wrong      []bool
	tries      int
	now        int
	ends       map[int]int
}

func (m *model) stop(l ...int) {
	for _, i := range l {
		delete(m.ends, i)
	}
}

func (m *model) start(i int) { m.ends[i] = m.now + times[i] }

func (m *model) near() {
	m.state = "near"
	m.stop(0, 2, 4)
	m.start(3)
}

func (m *model) prove() {
	m.state, m.quickly, m.wrong = "tried", m.own || m.their, nil
	m.stop(0, 2, 3, 4)
	if m.quickly {
		m.start(0)
	} else {
		m.start(4)
	}
}

func (m *model) Begin() {
	m.state, m.tries, m.their = "apart", 0, false
	m.stop(0, 3, 4)
	m.start(2)
}

func (m *model) End() {
	m.state, m.their = "idle", false
	m.stop(0, 2, 3, 4)
}

func (m *model) Hurry(on bool) {
	was := m.own || m.their
	m.own = on
	if m.state == "tried" && on && !was {
		m.prove()
	}
}

func (m *model) Heard(status byte) byte {
	was := m.own || m.their
	if m.state != "idle" && status == api.SIE {
		m.their = true
	}
	switch fmt.Sprint(m.state, " ", status) {
	case "near 3", "tried 3":
		return api.TheirStop
	case "apart 0", "apart 1", "apart 2", "tried 0":
		m.near()
	case "near 1", "near 2":
		m.tries = 0
		m.prove()
	case "tried 2":
		if !was {
			m.prove()
		}
	}
	return api.None
}

func (m *model) Unit(wrong bool) byte {
	if m.state != "tried" || !wrong {
		return api.None
	}
	m.wrong = append(m.wrong, true)
	if len(m.wrong) < 4 && !m.quickly {
		return api.None
	}
	m.wrong = nil
	m.tries++
	if m.tries >= 5 {
		return api.Proving
	}
	m.prove()
	return api.None
}

func (m *model) Out(timer int) (bool, byte) {
	switch fmt.Sprint(m.state, " ", timer) {
	case "apart 2", "near 3":
		return false, api.NoAlign
	case "tried 0", "tried 4":
		m.End()
		return true, api.None
	}
	return false, api.None
}

// tick is one tick, and which timers run out, rising.
func (m *model) tick() []int {
	m.now++
	var l []int
	for i := range 8 {
		if at, ok := m.ends[i]; ok && at == m.now {
			l = append(l, i)
			delete(m.ends, i)
		}
	}
	return l
}

// tells is all that the Align should tell, and what should be left of its timers.
func (m *model) tells() string {
	states := map[string]byte{"idle": align.Idle, "apart": align.Apart, "near": align.Near, "tried": align.Tried}
	sends := map[string]byte{"idle": api.SIOS, "apart": api.SIO, "near": api.SIN, "tried": api.SIN}[m.state]
	if sends == api.SIN && m.own {
		sends = api.SIE
	}
	var l [8]int
	for i, at := range m.ends {
		l[i] = at - m.now
	}
	return fmt.Sprint(states[m.state], m.own, sends, m.tries, l)
}

// P14.1, P14.2, P14.3: long sequences of all calls and ticks, by chance, against the model; a timer that runs out is mostly told to the Align. The timers that aren't the Align's run on the same clock.
func TestPlays(t *testing.T) {
	seen := map[string]int{}
	for seed := range 300 {
		r := rand.New(rand.NewSource(int64(seed)))
		c := &clock.Clock{}
		a, m := align.New(set(), c), &model{state: "idle", ends: map[int]int{}}
		for i := range 3000 {
			x := chance(r)
			calls := []call{x}
			if x.kind == tick {
				calls = ticks(t, r, c, m)
			}
			for _, x := range calls {
				got, want := x.do(a), x.do(m)
				if got != want {
					t.Fatalf("seed %d, step %d: %v: %v, want %v", seed, i, x, got, want)
				}
				if got, want := tells(a, c), m.tells(); got != want {
					t.Fatalf("seed %d, step %d: %v: %s, want %s", seed, i, x, got, want)
				}
				seen[fmt.Sprint(m.state, want)]++
			}
		}
	}
	for _, s := range []string{"apart", "near"} {
		if seen[fmt.Sprint(s, answer{why: api.NoAlign})] == 0 {
			t.Errorf("%s: its timer never ran out", s)
		}
	}
	for _, s := range []string{fmt.Sprint("tried", answer{why: api.Proving}), fmt.Sprint("idle", answer{done: true}), fmt.Sprint("near", answer{why: api.TheirStop}), fmt.Sprint("tried", answer{why: api.TheirStop})} {
		if seen[s] == 0 {
			t.Errorf("%s never came", s)
		}
	}
}

// ticks is some ticks of the clock and of the model, up to the first at which a timer runs out; which calls of Out those that ran out make. One of the timers that the Align doesn't know is started sometimes.
func ticks(t *testing.T, r *rand.Rand, c *clock.Clock, m *model) []call {
	t.Helper()
	if i := []int{1, 5, 6, 7}[r.Intn(4)]; r.Intn(10) == 0 {
		c.Start(i, times[i])
		m.start(i)
	}
	for range 1 + r.Intn(40) {
		got, want := c.Tick(), m.tick()
		if fmt.Sprint(got) != fmt.Sprint(want) {
			t.Fatalf("Tick: %v, want %v", got, want)
		}
		var calls []call
		for _, i := range got {
			if r.Intn(8) != 0 {
				calls = append(calls, call{kind: out, n: i})
			}
		}
		if len(got) > 0 {
			return calls
		}
	}
	return nil
}

// P2: what an Align answers hangs on what it was told alone: two that are told the same answer the same, whatever a third one is told between.
func TestAlike(t *testing.T) {
	for seed := range 50 {
		r := rand.New(rand.NewSource(int64(seed)))
		other := rand.New(rand.NewSource(int64(seed + 1000)))
		c, d, e := &clock.Clock{}, &clock.Clock{}, &clock.Clock{}
		a, b, third := align.New(set(), c), align.New(set(), d), align.New(set(), e)
		for i := range 1000 {
			x := chance(r)
			got := x.do(a)
			chance(other).do(third)
			if again := x.do(b); got != again {
				t.Fatalf("seed %d, step %d: %v: %v, and %v", seed, i, x, got, again)
			}
			if x.kind == tick {
				c.Tick()
				d.Tick()
			}
			if tells(a, c) != tells(b, d) {
				t.Fatalf("seed %d, step %d: %v: %s, and %s", seed, i, x, tells(a, c), tells(b, d))
			}
		}
	}
}

// whole watches one proving: how many ticks it has lasted, and how many units that aren't right it has let by.
type whole struct {
	ticks, wrong int
}

// P5: what Out says is proved, at a timer that ran out, was Tried without a break for all the ticks of T4, or T0, with less units that weren't right than give it up; and each failure has a reason that is one of three.
func TestProvedWhole(t *testing.T) {
	proved := map[bool]int{}
	for seed := range 300 {
		r := rand.New(rand.NewSource(int64(seed)))
		c := &clock.Clock{}
		a := align.New(set(), c)
		a.Begin()
		w := whole{}
		for i := range 3000 {
			x := chance(r)
			if x.kind == out || r.Intn(1+seed%12) != 0 { // a timer that the clock lets run out is told, and no other one
				x = call{kind: tick}
			}
			tries, quick, normal := a.Tries(), c.Left(0), c.Left(4)
			got := x.do(a)
			if x.kind == unit && x.on {
				w.wrong++
			}
			if a.State != align.Tried || a.Tries() != tries || c.Left(0) > quick || c.Left(4) > normal {
				w = whole{} // what is proved from here on is another proving
			}
			if !reason(x, got.why) {
				t.Fatalf("seed %d, step %d: %v: %v", seed, i, x, got)
			}
			if got.why != api.None {
				a.Begin()
			}
			if x.kind == tick && proves(t, a, c, &w) {
				proved[quick > 0]++
				a.Begin()
			}
		}
	}
	if proved[false] < 100 || proved[true] < 100 {
		t.Errorf("proved in a hurry, and not: %v", proved)
	}
}

// reason: is a reason one that a call may answer?
func reason(x call, why byte) bool {
	switch why {
	case api.None:
		return true
	case api.TheirStop:
		return x.kind == heardStatus && x.n == int(api.SIOS)
	case api.Proving:
		return x.kind == unit && x.on
	}
	return false
}

// proves is one tick, and whether it is proved then.
func proves(t *testing.T, a *align.Align, c *clock.Clock, w *whole) bool {
	t.Helper()
	w.ticks++
	hurried := c.On(0)
	for _, i := range c.Tick() {
		state := a.State
		done, why := a.Out(i)
		if done && (state != align.Tried || hurried && (w.ticks != times[0] || w.wrong > 0) || !hurried && (w.ticks != times[4] || w.wrong > 3)) {
			t.Fatalf("proved in State %d, %v: %v", state, hurried, *w)
		}
		if !done && (why != api.NoAlign || state != align.Apart && state != align.Near) {
			t.Fatalf("State %d: %d", state, why)
		}
		if done {
			return true
		}
		a.Begin()
	}
	return false
}

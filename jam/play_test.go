package jam_test

import (
	"fmt"
	"math/rand"
	"slices"
	"testing"

	"signalman/api"
	"signalman/clock"
	"signalman/jam"
)

// told is what calls can be made of: a Jam, or the model.
type told interface {
	Begin()
	End()
	Due() bool
	Heard(waits bool) bool
	Answer() bool
	Out(timer int) byte
	Clear()
}

// call is one of them, with what it is given, or what level 3 or a line does to the clock.
type call struct {
	name  string
	waits bool
	n     int
}

// do makes a call, but for those of the clock, and tells what is answered.
func (x call) do(a told) string {
	switch x.name {
	case "Begin":
		a.Begin()
	case "End":
		a.End()
	case "Due":
		return fmt.Sprint(a.Due())
	case "Heard":
		return fmt.Sprint(a.Heard(x.waits))
	case "Answer":
		return fmt.Sprint(a.Answer())
	case "Out":
		return fmt.Sprint(a.Out(x.n))
	case "Clear":
		a.Clear()
	}
	return ""
}

// chance is a call by chance; most are ticks, so that timers run out.
func chance(r *rand.Rand) call {
	switch n := r.Intn(2000); {
	case n < 20:
		return call{name: "Begin"}
	case n < 26:
		return call{name: "End"}
	case n < 80:
		return call{name: "Due"}
	case n < 110:
		return call{name: "Heard", waits: r.Intn(2) == 0}
	case n < 114:
		return call{name: "Answer"}
	case n < 134:
		return call{name: "Out", n: numbers[r.Intn(len(numbers))]}
	case n < 136:
		return call{name: "Clear"}
	case n < 140:
		return call{name: "start", n: r.Intn(8)}
	}
	return call{name: "tick"}
}

// model is a Jam, and its eight timers, by the chapter's words. It keeps at which tick a timer runs out, and how many statuses became due since one was told or none was due any more.
type model struct {
	busy map[string]bool
	due  int
	now  int
	ends map[int]int
}

func newModel() *model { return &model{busy: map[string]bool{}, ends: map[int]int{}} }

func (m *model) start(i, ticks int) { m.ends[i] = m.now + ticks }

func (m *model) Begin() {
	if !m.busy["own"] {
		m.busy["own"] = true
		m.due++
		m.start(5, times[5])
	}
}

func (m *model) End() {
	delete(m.busy, "own")
	m.due = 0
	delete(m.ends, 5)
}

func (m *model) Due() bool {
	was := m.due
	m.due = 0
	return was > 0
}

func (m *model) Heard(waits bool) bool {
	n := len(m.busy)
	if !m.busy["their"] {
		m.start(6, times[6])
	}
	m.busy["their"] = true
	if waits {
		m.start(7, times[7])
	}
	return len(m.busy) > n
}

func (m *model) Answer() bool {
	was := m.busy["their"]
	if was {
		delete(m.ends, 6)
	}
	delete(m.busy, "their")
	return was
}

func (m *model) Out(timer int) byte {
	if timer == 5 && m.busy["own"] {
		m.due++
		m.start(5, times[5])
	}
	if timer == 6 && m.busy["their"] {
		return api.Busy
	}
	return api.None
}

func (m *model) Clear() {
	clear(m.busy)
	m.due = 0
	delete(m.ends, 5)
	delete(m.ends, 6)
}

// tick is one tick: the timers that run out, rising.
func (m *model) tick() []int {
	m.now++
	var l []int
	for i, end := range m.ends {
		if end == m.now {
			l = append(l, i)
			delete(m.ends, i)
		}
	}
	slices.Sort(l)
	return l
}

// tells is all that a model tells without being changed.
func (m *model) tells() string {
	var l [8]int
	for i, end := range m.ends {
		l[i] = end - m.now
	}
	return fmt.Sprint(m.busy["own"], m.busy["their"], l)
}

// tells is all that a Jam tells without being changed, and what is left of its timers.
func tells(j *jam.Jam, c *clock.Clock) string { return fmt.Sprint(j.Own, j.Their, left(c)) }

// P16.1, P1, P2, P5: long plays of all calls and ticks by chance, against the chapter's words; timers that run out are told to it, and others are, too.
func TestPlays(t *testing.T) {
	count := map[string]int{}
	for seed := range int64(60) {
		r := rand.New(rand.NewSource(seed))
		c := &clock.Clock{}
		j, m := jam.New(set(), c), newModel()
		for i := range 6000 {
			for _, x := range turn(t, r, c, m) {
				got, want := x.do(j), x.do(m)
				count[x.name+" "+got]++
				if got != want || tells(j, c) != m.tells() {
					t.Fatalf("seed %d, step %d, %v: %q, %s, want %q, %s", seed, i, x, got, tells(j, c), want, m.tells())
				}
			}
		}
	}
	for _, what := range []string{"Due true", "Due false", "Heard true", "Heard false", "Answer true", "Answer false", "Out 0", "Out 3"} {
		if count[what] < 20 {
			t.Errorf("%s: %d times", what, count[what])
		}
	}
}

// turn is what comes next, by chance: a call, or those that a tick brings: Out of each timer that runs out.
func turn(t *testing.T, r *rand.Rand, c *clock.Clock, m *model) []call {
	t.Helper()
	x := chance(r)
	if x.name == "start" {
		c.Start(x.n, 300)
		m.start(x.n, 300)
		return nil
	}
	if x.name != "tick" {
		return []call{x}
	}
	out := c.Tick()
	if want := m.tick(); !slices.Equal(out, want) {
		t.Fatalf("%v run out, want %v", out, want)
	}
	var l []call
	for _, i := range out {
		l = append(l, call{name: "Out", n: i})
	}
	return l
}

// P2: of the same calls two Jams answer the same.
func TestAlike(t *testing.T) {
	r := rand.New(rand.NewSource(5))
	c, d := &clock.Clock{}, &clock.Clock{}
	j, k := jam.New(set(), c), jam.New(set(), d)
	for range 20000 {
		x := chance(r)
		if x.name == "tick" {
			if out := c.Tick(); !slices.Equal(out, d.Tick()) {
				t.Fatal(out)
			}
			continue
		}
		if got := x.do(j); got != x.do(k) || tells(j, c) != tells(k, d) {
			t.Fatal(x, got)
		}
	}
}

// P16.1, P7: a side that is busy for any number of ticks: its status is due at the beginning and each T5 ticks from there on, however late it is told, and not behind the end.
func TestBusyLong(t *testing.T) {
	for _, ticks := range []int{0, 1, times[5] - 1, times[5], times[5] + 1, 2*times[5] - 1, 2 * times[5], 10*times[5] + 7} {
		c := &clock.Clock{}
		j := jam.New(set(), c)
		j.Begin()
		for i := range ticks + 1 {
			if i > 0 {
				for _, timer := range c.Tick() {
					if why := j.Out(timer); why != api.None {
						t.Fatal(why)
					}
				}
			}
			if got, want := j.Due(), i%times[5] == 0; got != want {
				t.Fatalf("tick %d: due %v", i, got)
			}
			j.Begin()
			if j.Due() {
				t.Fatalf("tick %d: due by a second Begin", i)
			}
		}
		j.End()
		for range 3 * times[5] {
			if l := c.Tick(); len(l) > 0 || j.Due() {
				t.Fatalf("%v behind the end of %d", l, ticks)
			}
		}
	}
}

// P16.1: statuses that aren't told at once: however many T5 go by, one is due.
func TestBusyUntold(t *testing.T) {
	c := &clock.Clock{}
	j := jam.New(set(), c)
	j.Begin()
	for range 5 * times[5] {
		for _, timer := range c.Tick() {
			j.Out(timer)
		}
	}
	want(t, "five times", j, c, where{true, false, true}, started([8]int{}, 5))
}

// firstBusy is at which tick a Jam fails, that hears the other side to be busy at tick 0 and each so many ticks from there on, and may hear it to be answered at one tick; -1: not within most.
func firstBusy(every, answered, most int, waits bool) int {
	c := &clock.Clock{}
	j := jam.New(set(), c)
	for i := range most {
		if i > 0 {
			for _, timer := range c.Tick() {
				if why := j.Out(timer); why == api.Busy {
					return i
				}
			}
		}
		if i == answered {
			j.Answer()
		}
		if i%every == 0 {
			j.Heard(waits)
		}
	}
	return -1
}

// P7: one that is heard to be busy again and again, without an answer, fails T6 ticks behind the first time, and not later; an answer begins it anew.
func TestTheirsLong(t *testing.T) {
	for _, waits := range both {
		for _, every := range []int{1, 2, 7, times[5], times[6] - 1, times[6], 100000} {
			if got := firstBusy(every, -1, 2*times[6], waits); got != times[6] {
				t.Errorf("every %d: fails at %d", every, got)
			}
		}
		if got := firstBusy(10, 301, 3*times[6], waits); got != 310+times[6] {
			t.Errorf("answered at 301: fails at %d", got)
		}
		if got := firstBusy(100000, 301, 3*times[6], waits); got != -1 {
			t.Errorf("answered at 301, and no more: fails at %d", got)
		}
	}
}

// P7: two Jams: one side is busy, and says so whenever that is due; the other one hears it some ticks later, and fails T6 ticks behind the first time, unless it ends earlier.
func TestTwo(t *testing.T) {
	for _, delay := range []int{0, 1, 54, 55, 56, 300} {
		for _, ends := range []int{1, times[5], 400, times[6] - 1, times[6] + delay, 2000} {
			want := -1
			if ends >= times[6] {
				want = delay + times[6]
			}
			if got := two(delay, ends); got != want {
				t.Errorf("delay %d, ends at %d: fails at %d, want %d", delay, ends, got, want)
			}
		}
	}
}

// two is at which tick the other side fails, when this one is busy from tick 0 on until an end, and answers from there on, over a line of so many ticks; -1: it doesn't.
func two(delay, ends int) int {
	c, d := &clock.Clock{}, &clock.Clock{}
	j, k := jam.New(set(), c), jam.New(set(), d)
	line := map[int]string{}
	j.Begin()
	for now := range 3000 {
		if now == ends {
			j.End()
			line[now+delay] = "answer"
		}
		if now > 0 {
			for _, timer := range c.Tick() {
				j.Out(timer)
			}
			for _, timer := range d.Tick() {
				if k.Out(timer) == api.Busy {
					return now
				}
			}
		}
		if j.Due() {
			line[now+delay] = "busy"
		}
		switch line[now] {
		case "busy":
			k.Heard(false)
		case "answer":
			k.Answer()
		}
	}
	return -1
}

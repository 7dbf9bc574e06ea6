package clock_test

import (
	"fmt"
	"math"
	"math/rand"
	"slices"
	"testing"

	"signalman/api"
	"signalman/clock"
)

// model is a Clock by the document's words: it keeps at which tick a timer runs out, and counts nothing down.
type model struct {
	now  int
	ends map[int]int
}

func newModel() *model { return &model{ends: map[int]int{}} }

func (m *model) start(i, ticks int) api.Errno {
	if i < 0 || i > 7 || ticks < 1 || ticks > 1<<32 {
		return api.ErrArg
	}
	m.ends[i] = m.now + ticks
	return api.OK
}

func (m *model) stop(l ...int) {
	for _, i := range l {
		delete(m.ends, i)
	}
}

func (m *model) left(i int) int {
	if end, ok := m.ends[i]; ok {
		return end - m.now
	}
	return 0
}

func (m *model) least() int {
	var all []int
	for i := range m.ends {
		all = append(all, m.left(i))
	}
	if len(all) == 0 {
		return 0
	}
	return slices.Min(all)
}

func (m *model) tick() []int {
	m.now++
	var out []int
	for i, end := range m.ends {
		if end == m.now {
			out = append(out, i)
		}
	}
	for _, i := range out {
		delete(m.ends, i)
	}
	slices.Sort(out)
	return out
}

// same holds all that a Clock tells without being changed against the model.
func (m *model) same(t *testing.T, c *clock.Clock, did string) {
	t.Helper()
	for _, i := range []int{math.MinInt, -8, -2, -1, 0, 1, 2, 3, 4, 5, 6, 7, 8, 9, 15, 16, 256, 1 << 32, math.MaxInt} {
		if got, want := c.Left(i), m.left(i); got != want {
			t.Fatalf("%s: Left(%d) = %d, want %d", did, i, got, want)
		}
		if got, want := c.On(i), m.left(i) != 0; got != want {
			t.Fatalf("%s: On(%d) = %v, want %v", did, i, got, want)
		}
	}
	if got, want := c.Least(), m.least(); got != want {
		t.Fatalf("%s: Least() = %d, want %d", did, got, want)
	}
}

// tells is all that a Clock tells without being changed, as a text.
func tells(c *clock.Clock) string {
	s := fmt.Sprint(c.Least())
	for i := -1; i <= 8; i++ {
		s += fmt.Sprintf(" %d:%v,%d", i, c.On(i), c.Left(i))
	}
	return s
}

// ticks: of so many ticks at which one (from 1 on) which timers run out, as a text.
func ticks(c *clock.Clock, many int) string {
	s := ""
	for n := range many {
		if l := c.Tick(); len(l) > 0 {
			s += fmt.Sprintf("%d:%v ", n+1, l)
		}
	}
	return s
}

// must starts a timer that may be started.
func must(t *testing.T, c *clock.Clock, i, ticks int) {
	t.Helper()
	if e := c.Start(i, ticks); e != api.OK {
		t.Fatalf("Start(%d, %d) = %d", i, ticks, e)
	}
}

// P7.1: the chapter's example, and how many timers there are.
func TestExample(t *testing.T) {
	if clock.Many != 8 {
		t.Errorf("Many = %d", clock.Many)
	}
	c := &clock.Clock{}
	must(t, c, 3, 2)
	if l := c.Tick(); len(l) != 0 {
		t.Errorf("the first Tick: %v", l)
	}
	if l := c.Tick(); !slices.Equal(l, []int{3}) {
		t.Errorf("the second Tick: %v", l)
	}
}

// P7.1: which timers there are, and in how many ticks one may run out.
func TestStartBounds(t *testing.T) {
	for _, x := range []struct {
		i, ticks int
		want     api.Errno
	}{
		{0, 1, api.OK}, {7, 1, api.OK}, {1, 2, api.OK}, {6, 1000, api.OK},
		{0, api.MaxTime, api.OK}, {7, api.MaxTime, api.OK}, {7, api.MaxTime - 1, api.OK},
		{-1, 1, api.ErrArg}, {8, 1, api.ErrArg}, {9, 1, api.ErrArg}, {math.MinInt, 1, api.ErrArg}, {math.MaxInt, 1, api.ErrArg},
		{256, 1, api.ErrArg}, {1 << 32, 1, api.ErrArg},
		{0, 0, api.ErrArg}, {7, 0, api.ErrArg}, {0, -1, api.ErrArg}, {0, math.MinInt, api.ErrArg},
		{0, api.MaxTime + 1, api.ErrArg}, {7, api.MaxTime + 1, api.ErrArg}, {0, math.MaxInt, api.ErrArg},
		{-1, 0, api.ErrArg}, {8, api.MaxTime + 1, api.ErrArg}, {8, api.MaxTime, api.ErrArg},
	} {
		c := &clock.Clock{}
		if got := c.Start(x.i, x.ticks); got != x.want {
			t.Errorf("Start(%d, %d) = %d, want %d", x.i, x.ticks, got, x.want)
		}
		left := 0
		if x.want == api.OK {
			left = x.ticks
		}
		if c.Left(x.i) != left || c.On(x.i) != (left != 0) || c.Least() != left {
			t.Errorf("Start(%d, %d): %s", x.i, x.ticks, tells(c))
		}
	}
}

// P7.1: one that has MaxTime ticks counts down from there.
func TestLongest(t *testing.T) {
	c := &clock.Clock{}
	must(t, c, 4, api.MaxTime)
	if s := ticks(c, 1000); s != "" || c.Left(4) != api.MaxTime-1000 || c.Least() != api.MaxTime-1000 || !c.On(4) {
		t.Errorf("%s: %s", s, tells(c))
	}
	must(t, c, 5, api.MaxTime)
	if c.Least() != api.MaxTime-1000 || c.Left(5) != api.MaxTime {
		t.Error(tells(c))
	}
}

// P7.1: Start of one that runs, longer and shorter, and of one that ran out, or was stopped.
func TestStartAnew(t *testing.T) {
	for _, anew := range []int{1, 2, 3, 4, 9} {
		c := &clock.Clock{}
		must(t, c, 2, 3)
		ticks(c, 1)
		must(t, c, 2, anew)
		if c.Left(2) != anew {
			t.Errorf("anew %d: Left = %d", anew, c.Left(2))
		}
		if got, want := ticks(c, 20), fmt.Sprintf("%d:[2] ", anew); got != want {
			t.Errorf("anew %d: %s, want %s", anew, got, want)
		}
		must(t, c, 2, anew)
		if got, want := ticks(c, 20), fmt.Sprintf("%d:[2] ", anew); got != want {
			t.Errorf("ran out, anew %d: %s, want %s", anew, got, want)
		}
		must(t, c, 2, 5)
		c.Stop(2)
		must(t, c, 2, anew)
		if got, want := ticks(c, 20), fmt.Sprintf("%d:[2] ", anew); got != want {
			t.Errorf("stopped, anew %d: %s, want %s", anew, got, want)
		}
	}
}

// P7.1: an error of Start leaves all as it was, the timer that it names too.
func TestStartErrorChangesNothing(t *testing.T) {
	c := &clock.Clock{}
	must(t, c, 0, 4)
	must(t, c, 3, 2)
	must(t, c, 7, 6)
	was := tells(c)
	for _, i := range []int{-1, 0, 3, 5, 7, 8} {
		for _, n := range []int{math.MinInt, -1, 0, api.MaxTime + 1, math.MaxInt} {
			if e := c.Start(i, n); e != api.ErrArg {
				t.Errorf("Start(%d, %d) = %d", i, n, e)
			}
			if now := tells(c); now != was {
				t.Fatalf("Start(%d, %d): %s, was %s", i, n, now, was)
			}
		}
	}
	for _, i := range []int{math.MinInt, -1, 8, math.MaxInt} {
		if e := c.Start(i, 1); e != api.ErrArg || tells(c) != was {
			t.Errorf("Start(%d, 1) = %d: %s, was %s", i, e, tells(c), was)
		}
	}
	if got, want := ticks(c, 10), "2:[3] 4:[0] 6:[7] "; got != want {
		t.Errorf("%s, want %s", got, want)
	}
}

// P7.1: Stop of none, one, several, one twice, those that don't run, and those that there aren't.
func TestStop(t *testing.T) {
	for _, x := range []struct {
		l    []int
		want string
	}{
		{nil, "1:[0] 2:[1] 3:[2] 4:[7] "},
		{[]int{}, "1:[0] 2:[1] 3:[2] 4:[7] "},
		{[]int{0}, "2:[1] 3:[2] 4:[7] "},
		{[]int{7}, "1:[0] 2:[1] 3:[2] "},
		{[]int{2, 0}, "2:[1] 4:[7] "},
		{[]int{1, 1}, "1:[0] 3:[2] 4:[7] "},
		{[]int{1, 2, 1}, "1:[0] 4:[7] "},
		{[]int{3}, "1:[0] 2:[1] 3:[2] 4:[7] "},
		{[]int{3, 4, 5, 6}, "1:[0] 2:[1] 3:[2] 4:[7] "},
		{[]int{3, 2}, "1:[0] 2:[1] 4:[7] "},
		{[]int{-1}, "1:[0] 2:[1] 3:[2] 4:[7] "},
		{[]int{8}, "1:[0] 2:[1] 3:[2] 4:[7] "},
		{[]int{-8, 9, 15, 16, 256, 1 << 32, math.MinInt, math.MaxInt}, "1:[0] 2:[1] 3:[2] 4:[7] "},
		{[]int{-1, 0, 8, 2, 99}, "2:[1] 4:[7] "},
		{[]int{7, 6, 5, 4, 3, 2, 1, 0}, ""},
	} {
		c := &clock.Clock{}
		for n, i := range []int{0, 1, 2, 7} {
			must(t, c, i, n+1)
		}
		was := slices.Clone(x.l)
		c.Stop(x.l...)
		if !slices.Equal(x.l, was) {
			t.Errorf("Stop(%v) has changed what was handed in: %v", was, x.l)
		}
		for _, i := range x.l {
			if c.On(i) || c.Left(i) != 0 {
				t.Errorf("Stop(%v): %d runs", x.l, i)
			}
		}
		if got := ticks(c, 10); got != x.want {
			t.Errorf("Stop(%v): %s, want %s", x.l, got, x.want)
		}
	}
}

// P7.1: a list that is handed in isn't kept: what becomes of it afterwards is nothing to the Clock.
func TestStopKeepsNothing(t *testing.T) {
	c := &clock.Clock{}
	must(t, c, 1, 2)
	must(t, c, 2, 3)
	l := []int{1}
	c.Stop(l...)
	l[0] = 2
	if got, want := ticks(c, 10), "3:[2] "; got != want {
		t.Errorf("%s, want %s", got, want)
	}
}

// P7.1: On, Left and Least ahead of the tick at which each runs out, at it, and behind it.
func TestOnLeftLeast(t *testing.T) {
	c := &clock.Clock{}
	must(t, c, 0, 3)
	must(t, c, 6, 5)
	for n := range 8 {
		left0, left6 := max(3-n, 0), max(5-n, 0)
		least := left0
		if least == 0 {
			least = left6
		}
		if c.Left(0) != left0 || c.On(0) != (left0 > 0) || c.Left(6) != left6 || c.On(6) != (left6 > 0) || c.Least() != least {
			t.Errorf("behind %d ticks: %s", n, tells(c))
		}
		for _, i := range []int{-1, 1, 5, 7, 8} {
			if c.On(i) || c.Left(i) != 0 {
				t.Errorf("behind %d ticks: %d runs", n, i)
			}
		}
		c.Tick()
	}
}

// P7.1: Least is the least of those that run, wherever it stands among them.
func TestLeast(t *testing.T) {
	for i := range 8 {
		c := &clock.Clock{}
		for k := range 8 {
			must(t, c, k, 10+k)
		}
		must(t, c, i, 4)
		if c.Least() != 4 {
			t.Errorf("%d has 4: Least = %d", i, c.Least())
		}
		c.Stop(i)
		want := 10
		if i == 0 {
			want = 11
		}
		if c.Least() != want {
			t.Errorf("%d stopped: Least = %d, want %d", i, c.Least(), want)
		}
	}
}

// P7.1: those that run out at one tick are told in rising order, in whatever order they were started; each that doesn't run out then goes on.
func TestTickRising(t *testing.T) {
	c := &clock.Clock{}
	for i := 7; i >= 0; i-- {
		must(t, c, i, 2)
	}
	if got, want := ticks(c, 10), "2:[0 1 2 3 4 5 6 7] "; got != want {
		t.Errorf("%s, want %s", got, want)
	}
	for some := range 256 {
		want := map[int][]int{}
		for i := 7; i >= 0; i-- {
			n := 2 - some>>i&1
			must(t, c, i, n)
			want[n] = append([]int{i}, want[n]...)
		}
		for n := 1; n <= 2; n++ {
			if got := c.Tick(); !slices.Equal(got, want[n]) {
				t.Fatalf("%08b, tick %d: %v, want %v", some, n, got, want[n])
			}
		}
		if l := c.Tick(); len(l) != 0 || c.Least() != 0 {
			t.Fatalf("%08b: %v, %s", some, l, tells(c))
		}
	}
}

// P7.1: Clear: none runs; and each may be started anew.
func TestClear(t *testing.T) {
	c := &clock.Clock{}
	for i := range 8 {
		must(t, c, i, i+1)
	}
	c.Clear()
	if got, want := tells(c), tells(&clock.Clock{}); got != want {
		t.Errorf("%s, want %s", got, want)
	}
	if s := ticks(c, 20); s != "" {
		t.Errorf("Clear, and ran out: %s", s)
	}
	c.Clear()
	must(t, c, 7, 1)
	if got, want := ticks(c, 3), "1:[7] "; got != want {
		t.Errorf("%s, want %s", got, want)
	}
}

// P7.1, P1: every call of a zero Clock: none runs.
func TestZero(t *testing.T) {
	var c clock.Clock
	for i := -1; i <= 8; i++ {
		if c.On(i) || c.Left(i) != 0 {
			t.Errorf("%d runs", i)
		}
	}
	if l := c.Tick(); len(l) != 0 || c.Least() != 0 {
		t.Errorf("Tick() = %v, Least() = %d", l, c.Least())
	}
	c.Stop()
	c.Stop(0, 7, 8, -1)
	c.Clear()
	if l := c.Tick(); len(l) != 0 || c.Least() != 0 {
		t.Errorf("Tick() = %v, Least() = %d", l, c.Least())
	}
	must(t, &c, 0, 1)
	if l := c.Tick(); !slices.Equal(l, []int{0}) {
		t.Errorf("Tick() = %v", l)
	}
}

// P7.1, P1: every call of a nil Clock: ErrArg of Start, else nothing, 0, false.
func TestNil(t *testing.T) {
	var c *clock.Clock
	for _, i := range []int{math.MinInt, -1, 0, 3, 7, 8, math.MaxInt} {
		for _, n := range []int{math.MinInt, -1, 0, 1, api.MaxTime, api.MaxTime + 1, math.MaxInt} {
			if e := c.Start(i, n); e != api.ErrArg {
				t.Errorf("Start(%d, %d) = %d", i, n, e)
			}
		}
		c.Stop(i)
		if c.On(i) || c.Left(i) != 0 {
			t.Errorf("%d runs", i)
		}
	}
	c.Stop()
	c.Stop(0, 1, 2, 3, 4, 5, 6, 7, 8, -1)
	c.Clear()
	if l := c.Tick(); len(l) != 0 || c.Least() != 0 {
		t.Errorf("Tick() = %v, Least() = %d", l, c.Least())
	}
}

// The rule of memory: an answer of Tick may be appended to, and written over; neither another answer nor the Clock changes by that.
func TestTickAnswersAreNew(t *testing.T) {
	c := &clock.Clock{}
	must(t, c, 1, 1)
	must(t, c, 2, 1)
	must(t, c, 5, 2)
	must(t, c, 6, 2)
	must(t, c, 7, 3)
	first := c.Tick()
	longer := append(first, 9, 9, 9, 9)
	was := tells(c)
	for i := range longer {
		longer[i] = 99
	}
	first[0] = 98
	if tells(c) != was {
		t.Errorf("%s, was %s", tells(c), was)
	}
	second := c.Tick()
	if !slices.Equal(second, []int{5, 6}) || longer[2] != 99 {
		t.Errorf("%v, %v", second, longer)
	}
	_ = append(second, 3, 3)
	third := c.Tick()
	if !slices.Equal(third, []int{7}) || !slices.Equal(second, []int{5, 6}) {
		t.Errorf("%v, %v", third, second)
	}
}

// P7.1, P2: two Clocks have nothing in common.
func TestApart(t *testing.T) {
	a, b := &clock.Clock{}, &clock.Clock{}
	must(t, a, 1, 2)
	must(t, b, 2, 1)
	if got, want := ticks(a, 5), "2:[1] "; got != want {
		t.Errorf("%s, want %s", got, want)
	}
	if got, want := ticks(b, 5), "1:[2] "; got != want {
		t.Errorf("%s, want %s", got, want)
	}
}

// play does calls of all kinds, held against the model after each.
func play(t *testing.T, r *rand.Rand, steps int) {
	c, m := &clock.Clock{}, newModel()
	odd := []int{math.MinInt, -1, 0, 1, api.MaxTime - 1, api.MaxTime, api.MaxTime + 1, math.MaxInt}
	for range steps {
		did := ""
		switch r.Intn(12) {
		case 0, 1, 2, 3:
			i, n := r.Intn(10)-1, 1+r.Intn(12)
			if r.Intn(6) == 0 {
				n = odd[r.Intn(len(odd))]
			}
			did = fmt.Sprintf("Start(%d, %d)", i, n)
			if got, want := c.Start(i, n), m.start(i, n); got != want {
				t.Fatalf("%s = %d, want %d", did, got, want)
			}
		case 4:
			l := make([]int, r.Intn(4))
			for k := range l {
				l[k] = r.Intn(12) - 2
			}
			did = fmt.Sprintf("Stop(%v)", l)
			c.Stop(l...)
			m.stop(l...)
		case 5:
			if r.Intn(8) != 0 {
				continue
			}
			did = "Clear()"
			c.Clear()
			m.ends = map[int]int{}
		default:
			did = "Tick()"
			if got, want := c.Tick(), m.tick(); !slices.Equal(got, want) {
				t.Fatalf("Tick() = %v, want %v", got, want)
			}
		}
		m.same(t, c, did)
	}
}

// P7.1, P1: long plays of any calls.
func TestPlays(t *testing.T) {
	for seed := range 200 {
		play(t, rand.New(rand.NewSource(int64(seed))), 2000)
	}
}

// P7.1: Least's own words: so many ticks on, and no sooner, one runs out.
func TestLeastIsTheNext(t *testing.T) {
	r := rand.New(rand.NewSource(7))
	for range 500 {
		c := &clock.Clock{}
		for range 1 + r.Intn(10) {
			must(t, c, r.Intn(8), 1+r.Intn(200))
		}
		for least := c.Least(); least != 0; least = c.Least() {
			if s := ticks(c, least-1); s != "" {
				t.Fatalf("Least was %d: %s", least, s)
			}
			if l := c.Tick(); len(l) == 0 {
				t.Fatalf("Least was %d: none runs out", least)
			}
		}
	}
}

package outage_test

import (
	"math/rand"
	"testing"

	"signalman/outage"
)

// both is whether something is so, of either kind.
var both = []bool{false, true}

// all are the eight Outages there are.
func all() []outage.Outage {
	var l []outage.Outage
	for _, own := range both {
		for _, their := range both {
			for _, wait := range both {
				l = append(l, outage.Outage{Own: own, Their: their, Wait: wait})
			}
		}
	}
	return l
}

// The chapter's example: the other side's is out, and back: level 3 must say that it goes on.
func TestExample(t *testing.T) {
	o, _ := outage.Outage{}.Remote(true)
	o, _ = o.Remote(false)
	if o != (outage.Outage{Wait: true}) || !o.Is() {
		t.Error(o)
	}
}

// P15.1: there are eight, and the zero value is that none is out.
func TestEight(t *testing.T) {
	if l := all(); len(l) != 8 || l[0] != (outage.Outage{}) {
		t.Error(l)
	}
	if (outage.Outage{}).Is() {
		t.Error("the zero value is out")
	}
}

// P15.1: Is: Own, Their or Wait, each by itself and together: of the eight just the zero value isn't.
func TestIs(t *testing.T) {
	for _, o := range all() {
		if got, want := o.Is(), o != (outage.Outage{}); got != want {
			t.Errorf("%+v: %v", o, got)
		}
	}
}

// P15.1: Local: Own is what is handed in, Their and Wait are left as they are.
func TestLocal(t *testing.T) {
	for _, o := range all() {
		for _, out := range both {
			was := o
			got := o.Local(out)
			if got.Own != out || got.Their != was.Their || got.Wait != was.Wait {
				t.Errorf("%+v, Local(%v): %+v", was, out, got)
			}
			if o != was {
				t.Errorf("Local(%v) has made %+v of %+v", out, o, was)
			}
		}
	}
}

// P15.1: Remote: Their is what is handed in, Wait is set with out and left as it is without, Own is left; it tells whether Their was another one, and the same thing is no news the second time.
func TestRemote(t *testing.T) {
	for _, o := range all() {
		for _, out := range both {
			was := o
			got, news := o.Remote(out)
			wait := was.Wait
			if out {
				wait = true
			}
			if got.Own != was.Own || got.Their != out || got.Wait != wait {
				t.Errorf("%+v, Remote(%v): %+v", was, out, got)
			}
			if news != (was.Their != out) {
				t.Errorf("%+v, Remote(%v): news %v", was, out, news)
			}
			if o != was {
				t.Errorf("Remote(%v) has made %+v of %+v", out, o, was)
			}
			if again, news := got.Remote(out); again != got || news {
				t.Errorf("%+v, Remote(%v) again: %+v, %v", was, out, again, news)
			}
			if back, news := got.Remote(!out); back.Their == out || !news {
				t.Errorf("%+v, Remote(%v), Remote(%v): %+v, %v", was, out, !out, back, news)
			}
		}
	}
}

// P15.1: Remote(false) where Their isn't set and Wait isn't either: Wait isn't set.
func TestRemoteBackUnasked(t *testing.T) {
	for _, own := range both {
		o := outage.Outage{Own: own}
		if got, news := o.Remote(false); got != o || news {
			t.Errorf("%+v: %+v, %v", o, got, news)
		}
	}
}

// P15.1: Continue: with Own, with Their and with both it is false, and nothing is changed; with neither it is true, and Wait isn't set, whether it was or not.
func TestContinue(t *testing.T) {
	for _, o := range all() {
		was := o
		got, ok := o.Continue()
		want, goes := was, false
		if !was.Own && !was.Their {
			want, goes = outage.Outage{}, true
		}
		if got != want || ok != goes {
			t.Errorf("%+v: %+v, %v", was, got, ok)
		}
		if o != was {
			t.Errorf("Continue has made %+v of %+v", o, was)
		}
		if !goes && !got.Is() {
			t.Errorf("%+v goes on", was)
		}
	}
}

// What is told of a link's processors, as a play goes on: the last that was said of each, and what was said of the other side's since level 3 went on.
type said struct {
	own, their bool
	since      []bool
}

// wait: was the other side's out at any time since level 3 went on?
func (s *said) wait() bool {
	for _, out := range s.since {
		if out {
			return true
		}
	}
	return false
}

// P15.1, P1, P2: long plays of all calls by chance, against what was said.
func TestPlays(t *testing.T) {
	for seed := range int64(200) {
		r := rand.New(rand.NewSource(seed))
		o, s := outage.Outage{}, &said{}
		for i := range 400 {
			out := r.Intn(2) == 0
			got, want := true, true
			switch r.Intn(4) {
			case 0:
				o = o.Local(out)
				s.own = out
			case 1:
				o, got = o.Remote(out)
				want = s.their && !out || !s.their && out
				s.their = out
				s.since = append(s.since, out)
			case 2:
				o, got = o.Continue()
				if want = !s.own && !s.their; want {
					s.since = nil
				}
			}
			if got != want {
				t.Fatalf("seed %d, step %d: answered %v, want %v", seed, i, got, want)
			}
			if o.Own != s.own || o.Their != s.their || o.Wait != s.wait() || o.Is() != (s.own || s.their || s.wait()) {
				t.Fatalf("seed %d, step %d: %+v, want %v, %v, %v", seed, i, o, s.own, s.their, s.wait())
			}
		}
	}
}

// P15.1: whoever is out level 3 goes on just behind the last one that comes back, in either order, and in between says so in vain.
func TestBothOut(t *testing.T) {
	for _, ownFirst := range both {
		o, _ := outage.Outage{}.Local(true).Remote(true)
		if next, ok := o.Continue(); ok || next != o {
			t.Error("both are out, and it goes on")
		}
		if ownFirst {
			o = o.Local(false)
		} else {
			o, _ = o.Remote(false)
		}
		if next, ok := o.Continue(); ok || next != o || !next.Wait {
			t.Error("one is out, and it goes on")
		}
		if ownFirst {
			o, _ = o.Remote(false)
		} else {
			o = o.Local(false)
		}
		if !o.Is() {
			t.Error("level 3 hasn't gone on yet")
		}
		if o, ok := o.Continue(); !ok || o.Is() {
			t.Error("none is out, and it doesn't go on")
		}
	}
}

// P15.1: this side's alone needs no word of level 3: as it is back none is out.
func TestOwnAlone(t *testing.T) {
	o := outage.Outage{}.Local(true)
	if o != (outage.Outage{Own: true}) || !o.Is() {
		t.Error(o)
	}
	if o = o.Local(false); o.Is() {
		t.Error(o)
	}
	if o, ok := o.Continue(); !ok || o.Is() {
		t.Error(o, ok)
	}
}

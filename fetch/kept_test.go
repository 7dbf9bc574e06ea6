package fetch_test

import (
	"fmt"
	"testing"

	"signalman/fetch"
	"signalman/state"
)

// spoil writes over all octets of a list's messages, and appends to each, and to the list.
func spoil(all [][]byte) {
	for i, p := range all {
		all[i] = append(p, "more"...)
		for j := range p {
			p[j] ^= 255
		}
	}
	_ = append(all, []byte("and one more"))
}

// askAll asks all calls of a State, with each number, and of two; what is answered is written over. All that is answered is told.
func askAll(x, y *state.State) string {
	n, e := fetch.BSNT(x)
	text := fmt.Sprint(n, e)
	for n := range 256 {
		all, e := fetch.Messages(x, uint8(n))
		text += fmt.Sprintf(" %q %d", all, e)
		spoil(all)
	}
	for _, with := range [][2]*state.State{{x, y}, {y, x}, {x, x}, {x, nil}, {nil, x}} {
		ofA, ofB, e := fetch.Change(with[0], with[1])
		text += fmt.Sprintf(" %q %q %d", ofA, ofB, e)
		spoil(ofA)
		spoil(ofB)
	}
	return text
}

// P18.1: nothing changes: asked twice each call answers the same, and a link that was asked goes on as one that wasn't.
func TestNothingChanges(t *testing.T) {
	var places []string
	for _, use := range uses {
		places = append(places, use.place)
	}
	for _, k := range kept {
		places = append(places, k.place)
	}
	for _, cyclic := range both {
		for _, place := range places {
			x, plain, y := at(cyclic, place), at(cyclic, place), at(cyclic, waits+" take:0:1 stop")
			was := look(y)
			first := askAll(x, y)
			if again := askAll(x, y); again != first {
				t.Fatalf("%s: %s, and then %s", place, first, again)
			}
			if got, want := look(x), look(plain); got != want {
				t.Fatalf("%s:\n%+v, want\n%+v", place, got, want)
			}
			if got := look(y); got != was {
				t.Fatalf("%s: the other one:\n%+v, want\n%+v", place, got, was)
			}
			for _, more := range []string{"send:9:12 next:4 free:1", "tick:44 flush next:3", "stop start sin sin tick:44 fill send:5:9 next:9 take:0:2"} {
				if got, want := fmt.Sprintf("%+v", x.Told()), fmt.Sprintf("%+v", plain.Told()); got != want {
					t.Fatalf("%s: told %s, want %s", place, got, want)
				}
				if got, want := do(x, more), do(plain, more); got != want {
					t.Fatalf("%s, %s: %s, want %s", place, more, got, want)
				}
			}
			if got, want := look(x), look(plain); got != want {
				t.Fatalf("%s, later:\n%+v, want\n%+v", place, got, want)
			}
		}
	}
}

// P2, the rule of memory: what is answered shares nothing with what is answered later, nor with another list of the same answer.
func TestAnswersApart(t *testing.T) {
	for _, cyclic := range both {
		a, b := at(cyclic, busy+" stop"), at(cyclic, service+" send:0:7 next:5 take:0:1 stop")
		l, _ := fetch.Messages(a, 0)
		m, _ := fetch.Messages(a, 0)
		ofA, ofB, _ := fetch.Change(a, b)
		spoil(l)
		if !same(m, messages(1, 3)) {
			t.Errorf("%q", m)
		}
		spoil(m)
		if !same(ofA, messages(1, 3)) || !same(ofB, messages(5, 7)) {
			t.Errorf("%q, %q", ofA, ofB)
		}
		spoil(ofA)
		if !same(ofB, messages(5, 7)) {
			t.Errorf("%q", ofB)
		}
		// The messages of one list share nothing either: to append to one writes over none behind it.
		l, _ = fetch.Messages(a, 0)
		l[0] = append(l[0], make([]byte, 300)...)
		if !same(l[1:], messages(2, 3)) {
			t.Errorf("%q", l)
		}
	}
}

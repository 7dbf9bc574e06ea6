package fetch_test

import (
	"fmt"
	"testing"

	"signalman/api"
	"signalman/fetch"
	"signalman/state"
)

// P18.1: Change is what the first one sent and the second one hasn't taken, and back: each has sent, and taken, another number of messages.
func TestChange(t *testing.T) {
	for _, cyclic := range both {
		for sentA := range 5 {
			for sentB := range 5 {
				for takenA := range sentB + 1 {
					for takenB := range sentA + 1 {
						a := at(cyclic, fmt.Sprintf("%s send:0:6 next:%d take:0:%d stop", service, sentA, takenA))
						b := at(cyclic, fmt.Sprintf("%s send:0:4 next:%d take:0:%d stop", service, sentB, takenB))
						what := fmt.Sprint(sentA, sentB, takenA, takenB)
						wantChange(t, what, a, b, messages(takenB, 6), messages(takenA, 4), api.OK)
						wantChange(t, what+" turned", b, a, messages(takenA, 4), messages(takenB, 6), api.OK)
					}
				}
			}
		}
	}
}

// taker is a link out of service that took so many messages, and was handed none.
func taker(cyclic bool, taken int) *state.State {
	x := at(cyclic, service)
	do(x, fmt.Sprintf("take:0:%d stop", taken))
	return x
}

// P18.1: with numbers that went round, and as many that wait as may.
func TestChangeRound(t *testing.T) {
	for _, cyclic := range both {
		for _, c := range counts {
			a := carried(t, cyclic, c)
			do(a, "stop")
			for taken := c[0]; taken <= c[1]; taken++ {
				b := taker(cyclic, taken)
				wantChange(t, fmt.Sprint(c, taken), a, b, messages(taken, c[2]), nil, api.OK)
				wantChange(t, fmt.Sprint(c, taken, " turned"), b, a, nil, messages(taken, c[2]), api.OK)
			}
		}
	}
}

// P18.1: ErrRange, if either one's hold doesn't know what the other one took; the other list is empty, too, that would not have been.
func TestChangeRange(t *testing.T) {
	for _, cyclic := range both {
		for _, c := range counts {
			a := carried(t, cyclic, c)
			do(a, "stop")
			for taken := range 128 {
				_, e := behind(c[0], c[1], c[2], uint8((taken+127)%128))
				if e == api.OK {
					continue
				}
				b := at(cyclic, fmt.Sprintf("%s send:0:3 next take:0:%d stop", service, taken))
				wantChange(t, fmt.Sprint(c, taken), a, b, nil, nil, api.ErrRange)
				wantChange(t, fmt.Sprint(c, taken, " turned"), b, a, nil, nil, api.ErrRange)
			}
		}
		a, b := at(cyclic, service+" send:0:3 next take:0:9 stop"), at(cyclic, service+" send:0:3 next take:0:7 stop")
		wantChange(t, "neither", a, b, nil, nil, api.ErrRange)
	}
}

// P18.1: links of one method and the other change over by the same words.
func TestChangeMixed(t *testing.T) {
	for _, cyclic := range both {
		a, b := at(cyclic, busy+" stop"), at(!cyclic, service+" send:3:9 next:5 take:0:2 stop")
		wantChange(t, "mixed", a, b, messages(2, 3), messages(8, 9), api.OK)
	}
}

// party is a link that is handed to Change, or none, and BSNT's error of it.
type party struct {
	what string
	x    *state.State
	e    api.Errno
}

// parties are links of all kinds: none, in use, out of service.
func parties(cyclic bool) []party {
	l := []party{{"nil", nil, api.ErrNone}}
	for _, use := range uses {
		l = append(l, party{use.place, at(cyclic, use.place), api.ErrState})
	}
	for _, k := range kept {
		l = append(l, party{k.place, at(cyclic, k.place), api.OK})
	}
	return l
}

// expected is what Change should answer of two links whose BSNTs' errors are known, by what their ways and holds tell.
func expected(a, b party) ([][]byte, [][]byte, api.Errno) {
	if e := max(a.e, b.e); e != api.OK {
		return nil, nil, e
	}
	if !a.x.W.Hold().Knows(b.x.W.Taken()) || !b.x.W.Hold().Knows(a.x.W.Taken()) {
		return nil, nil, api.ErrRange
	}
	ofA, _ := a.x.W.Hold().Rest(b.x.W.Taken())
	ofB, _ := b.x.W.Hold().Rest(a.x.W.Taken())
	return ofA, ofB, api.OK
}

// P18.1: of errors the greater one, of the BSNTs first: each kind of link with each.
func TestChangeErrors(t *testing.T) {
	for _, cyclic := range both {
		l := parties(cyclic)
		for _, a := range l {
			for _, b := range l {
				ofA, ofB, e := expected(a, b)
				wantChange(t, fmt.Sprintf("%q with %q", a.what, b.what), a.x, b.x, ofA, ofB, e)
			}
		}
	}
}

// P18.1: some of these by hand: one that isn't there, or is in use, goes ahead of numbers that aren't known; of both of these ErrState is the greater one.
func TestChangeErrorsNamed(t *testing.T) {
	for _, cyclic := range both {
		use, full, far := at(cyclic, waits), at(cyclic, waits+" stop"), at(cyclic, service+" take:0:50 stop")
		rows := []struct {
			what string
			a, b *state.State
			e    api.Errno
		}{
			{"nil and one that is out", nil, full, api.ErrNone},
			{"nil and one in use", nil, use, api.ErrState},
			{"one in use and one that is out", use, full, api.ErrState},
			{"one in use and one that took what nobody sent", use, far, api.ErrState},
			{"nil and one that took what nobody sent", nil, far, api.ErrNone},
			{"two in use", use, use, api.ErrState},
			{"what nobody sent was taken", full, far, api.ErrRange},
			{"that, by both", far, far, api.ErrRange},
		}
		for _, r := range rows {
			wantChange(t, r.what, r.a, r.b, nil, nil, r.e)
			wantChange(t, r.what+", turned", r.b, r.a, nil, nil, r.e)
		}
	}
}

// P18.1: of one and the same State: what it sent behind what it took, twice, in lists that share nothing.
func TestChangeSame(t *testing.T) {
	for _, cyclic := range both {
		for _, place := range []string{"", service + " send:0:3 stop", waits + " stop", service + " send:0:3 next:2 take:0:1 stop", service + " send:0:3 next:2 take:0:2 stop"} {
			x := at(cyclic, place)
			want, e := behind(0, x.W.Hold().Sent(), x.W.Hold().Sent()+x.W.Hold().Next(), x.W.Taken())
			wantChange(t, place, x, x, want, want, e)
			ofA, ofB, _ := fetch.Change(x, x)
			spoil(ofA)
			if !same(ofB, want) {
				t.Errorf("%s: %q, want %q", place, ofB, want)
			}
		}
		x := at(cyclic, waits+" take:0:3 stop")
		wantChange(t, "what it didn't send was taken", x, x, nil, nil, api.ErrRange)
		x = at(cyclic, waits)
		wantChange(t, "in use", x, x, nil, nil, api.ErrState)
	}
}

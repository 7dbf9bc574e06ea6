package fetch_test

import (
	"fmt"
	"testing"

	"signalman/api"
	"signalman/setup"
	"signalman/state"
)

// P18.1, example 1: of two new ones: nothing, twice.
func TestExample(t *testing.T) {
	for _, a := range both {
		for _, b := range both {
			wantChange(t, "two new ones", state.New(setup.Usual(a)), state.New(setup.Usual(b)), nil, nil, api.OK)
		}
	}
}

// The places of links that aren't out of service are what they are said to be.
func TestUses(t *testing.T) {
	for _, cyclic := range both {
		for _, use := range uses {
			if x := at(cyclic, use.place); x.S != use.state {
				t.Errorf("%s: %s", use.place, state.Name(x.S))
			}
		}
		for _, k := range kept {
			if x := at(cyclic, k.place); x.S != state.Out {
				t.Errorf("%s: %s", k.place, state.Name(x.S))
			}
		}
	}
}

// P18.1: BSNT is ErrState where a link isn't out of service, with 0 beside it; else what its way took, whyever it went out.
func TestBSNT(t *testing.T) {
	for _, cyclic := range both {
		for _, use := range uses {
			wantNumber(t, use.place, at(cyclic, use.place), 0, api.ErrState)
		}
		for _, k := range kept {
			x := at(cyclic, k.place)
			wantNumber(t, k.place, x, k.taken, api.OK)
			if x.W.Taken() != k.taken {
				t.Errorf("%s: its way took %d", k.place, x.W.Taken())
			}
		}
	}
}

// P18.1: BSNT goes round with the numbers.
func TestBSNTRound(t *testing.T) {
	for _, cyclic := range both {
		for many := range 300 {
			x := at(cyclic, service)
			do(x, fmt.Sprint("take:0:", many))
			wantNumber(t, "in service", x, 0, api.ErrState)
			do(x, "stop")
			wantNumber(t, fmt.Sprint(many, " taken"), x, uint8((many+127)%128), api.OK)
		}
	}
}

// P18.1: of nil: ErrNone, whatever the number is.
func TestNil(t *testing.T) {
	wantNumber(t, "nil", nil, 0, api.ErrNone)
	for n := range 256 {
		wantList(t, "nil", nil, uint8(n), nil, api.ErrNone)
	}
	wantChange(t, "nil", nil, nil, nil, nil, api.ErrNone)
}

// behind is what Messages should answer of a link that was handed so many messages, sent so many, and was answered so many: a message's number is its place, going round at 128.
func behind(freed, sent, last int, n uint8) ([][]byte, api.Errno) {
	for from := freed; from <= sent; from++ {
		if int(n) == (from+127)%128 {
			return messages(from, last), api.OK
		}
	}
	return nil, api.ErrRange
}

// wantAll holds what Messages answers, with each number, against what it should.
func wantAll(t *testing.T, what string, x *state.State, freed, sent, last int) {
	t.Helper()
	for n := range 256 {
		all, e := behind(freed, sent, last, uint8(n))
		wantList(t, what, x, uint8(n), all, e)
	}
}

// P18.1: Messages is ErrState where a link isn't out of service, whatever the number is; else what its hold has behind the number: ErrRange, if it doesn't know it, above 127 too.
func TestMessages(t *testing.T) {
	for _, cyclic := range both {
		for _, use := range uses {
			x := at(cyclic, use.place)
			for n := range 256 {
				wantList(t, use.place, x, uint8(n), nil, api.ErrState)
			}
		}
		for _, k := range kept {
			wantAll(t, k.place, at(cyclic, k.place), k.freed, k.sent, k.last)
		}
	}
}

// counts are how many messages were answered, sent and handed in: none, some and all, also where the numbers went round, and as many wait as may.
var counts = [][3]int{
	{0, 0, 0}, {0, 0, 1}, {0, 0, 5}, {0, 1, 1}, {0, 3, 3}, {0, 3, 5}, {2, 5, 7}, {3, 3, 3}, {3, 3, 5},
	{0, 127, 127}, {0, 127, 140}, {1, 128, 128}, {1, 128, 130}, {127, 127, 130}, {128, 128, 128}, {128, 129, 130},
	{100, 227, 300}, {126, 130, 133}, {127, 128, 128}, {254, 258, 260}, {300, 350, 400},
}

// carried is a link that was handed, sent, and was answered so many messages.
func carried(t *testing.T, cyclic bool, c [3]int) *state.State {
	t.Helper()
	x := at(cyclic, service)
	for i := range c[2] {
		do(x, fmt.Sprint("send:", i))
		if i < c[1] {
			do(x, "next")
		}
		if i < c[0] {
			do(x, fmt.Sprint("free:", i))
		}
	}
	if h := x.W.Hold(); h.Sent() != c[1]-c[0] || h.Next() != c[2]-c[1] || int(h.First()) != c[0]%128 {
		t.Fatalf("%v: %d wait from %d on, %d weren't sent", c, h.Sent(), h.First(), h.Next())
	}
	return x
}

// P18.1: all of what waits, some of it or none, and what wasn't sent, in order.
func TestMessagesRound(t *testing.T) {
	for _, cyclic := range both {
		for _, c := range counts {
			x := carried(t, cyclic, c)
			do(x, "stop")
			wantAll(t, fmt.Sprint(c), x, c[0], c[1], c[2])
			do(x, "flush")
			wantAll(t, fmt.Sprint(c, " flushed"), x, c[0], c[1], c[1])
			do(x, "start stop")
			wantAll(t, fmt.Sprint(c, " begun anew"), x, 0, 0, 0)
		}
	}
}

// P18.1: messages as long as may be, and as short, come back as they were handed in.
func TestMessagesLong(t *testing.T) {
	for _, cyclic := range both {
		x := at(cyclic, service)
		var all [][]byte
		for _, many := range []int{3, api.MaxInfo + 1, 4, api.MaxInfo} {
			p := make([]byte, many)
			for i := range p {
				p[i] = byte(i + many)
			}
			x.Order(api.Order{Kind: api.Send, P: p})
			all = append(all, p)
		}
		do(x, "next:2 stop")
		wantList(t, "none taken", x, 127, all, api.OK)
		wantList(t, "one taken", x, 0, all[1:], api.OK)
		wantList(t, "two taken", x, 1, all[2:], api.OK)
		wantList(t, "three taken", x, 2, nil, api.ErrRange)
	}
}

package fetch_test

import (
	"fmt"
	"math/rand"
	"testing"

	"signalman/api"
	"signalman/state"
)

// player is a State, and all that it was handed, sent, was answered and took since it began: by that a model tells what is fetched back.
type player struct {
	x           *state.State
	r           *rand.Rand
	rare        int // each so manieth unit, and order, is an odd one
	many        int // how many messages there were ever, so that no two are alike
	handed      [][]byte
	sent, freed int
	taken       int
}

// begin: the numbers begin anew, and nothing is there.
func (p *player) begin() { p.handed, p.sent, p.freed, p.taken = nil, 0, 0, 0 }

// order gives an order.
func (p *player) order(kind byte) {
	o := api.Order{Kind: kind}
	if kind == api.Send {
		p.many++
		o.P = append(message(p.many), make([]byte, p.r.Intn(30))...)
	}
	if p.x.Order(o) != api.OK {
		return
	}
	switch kind {
	case api.Start:
		p.begin()
	case api.Send:
		p.handed = append(p.handed, o.P)
	case api.Flush:
		p.handed = p.handed[:p.sent]
	}
}

// next: a unit is sent; is it a message for the first time?
func (p *player) next() {
	u := p.x.Next()
	if u.Kind == api.Signal && p.sent < len(p.handed) && string(u.Info) == string(p.handed[p.sent]) {
		p.sent++
	}
}

// hear: a unit comes; it answers what waits up to its number, if that is one of these, and a link hears it that is proved.
func (p *player) hear(u api.Unit) {
	if u.Kind != api.Link && p.x.S != state.Out && p.x.S != state.Aligning {
		if k, ok := p.known(u.BSN); ok {
			p.freed = k
		}
	}
	p.x.Hear(u)
	for _, told := range p.x.Told() {
		if told.Kind == api.Message {
			p.taken++
		}
	}
}

// known: how many were answered by a number, if it is an answer.
func (p *player) known(n uint8) (int, bool) {
	for k := p.freed; k <= p.sent; k++ {
		if (k+127)%128 == int(n) {
			return k, true
		}
	}
	return 0, false
}

// unit is one by chance: most often one that a link may expect.
func (p *player) unit() api.Unit {
	fill := p.x.W.Fill()
	u := api.Unit{BIB: fill.FIB, FIB: fill.BIB, FSN: uint8(p.taken+127) % 128}
	u.BSN = uint8(p.freed+127+p.r.Intn(p.sent-p.freed+1)) % 128
	switch p.r.Intn(p.rare) {
	case 0:
		u.BIB = !u.BIB
	case 1:
		u.FIB = !u.FIB
	case 2:
		u.BSN = uint8(p.r.Intn(256))
	case 3:
		u.FSN = uint8(p.r.Intn(256))
	case 4:
		u.Kind, u.Status = api.Link, byte(p.r.Intn(6))
	}
	if u.Kind == api.Fill && p.r.Intn(3) > 0 {
		u.Kind, u.FSN, u.Info = api.Signal, (u.FSN+1)%128, message(p.r.Intn(1000))
	}
	return u
}

// step is one thing by chance: some of them bring a link that is out back into service.
func (p *player) step() {
	if p.x.S == state.Out && p.r.Intn(15) == 0 {
		do(p.x, "back calm")
		p.order(api.Start)
		do(p.x, "sin sin tick:44")
		return
	}
	if p.r.Intn(20*p.rare) == 0 {
		p.order(api.Stop)
	}
	switch p.r.Intn(12) {
	case 0, 1, 2:
		p.order(api.Send)
	case 3, 4, 5:
		p.next()
	case 6, 7, 8:
		p.hear(p.unit())
	case 9:
		for range p.r.Intn(10) {
			p.x.Tick()
		}
	default:
		if p.r.Intn(p.rare) < 20 {
			p.order(byte([]int{5, 6, 7, 10, 11, 9, 3, 4, 8, 0}[p.r.Intn(10)]))
		}
		if p.r.Intn(p.rare) == 0 {
			p.order(byte(p.r.Intn(13)))
		}
	}
}

// bsnt, all and change are what the calls should answer.
func (p *player) bsnt() (uint8, api.Errno) {
	if p == nil {
		return 0, api.ErrNone
	}
	if p.x.S != state.Out {
		return 0, api.ErrState
	}
	return uint8((p.taken + 127) % 128), api.OK
}

func (p *player) all(n uint8) ([][]byte, api.Errno) {
	if _, e := p.bsnt(); e != api.OK {
		return nil, e
	}
	k, ok := p.known(n)
	if !ok {
		return nil, api.ErrRange
	}
	return p.handed[k:], api.OK
}

func change(p, q *player) ([][]byte, [][]byte, api.Errno) {
	n, ep := p.bsnt()
	m, eq := q.bsnt()
	if ep != api.OK || eq != api.OK {
		return nil, nil, max(ep, eq)
	}
	l, ep := p.all(m)
	k, eq := q.all(n)
	if ep != api.OK || eq != api.OK {
		return nil, nil, max(ep, eq)
	}
	return l, k, api.OK
}

// link is a player's State, if there is one.
func (p *player) link() *state.State {
	if p == nil {
		return nil
	}
	return p.x
}

// P18.1, P1, P2: long random plays of two links: what each call answers is what a model says, with any numbers, in any state.
func TestPlay(t *testing.T) {
	outs, changes, rounds := 0, 0, 0
	for seed := range int64(120) {
		r := rand.New(rand.NewSource(seed))
		rare := []int{40, 400, 4000}[seed%3]
		p := &player{x: state.New(set(seed%2 == 0)), r: r, rare: rare}
		q := &player{x: state.New(set(r.Intn(2) == 0)), r: r, rare: rare}
		for i := range 3000 {
			[]*player{p, q}[r.Intn(2)].step()
			what := fmt.Sprintf("seed %d, step %d", seed, i)
			for _, one := range []*player{p, q} {
				n, e := one.bsnt()
				wantNumber(t, what, one.x, n, e)
				for _, m := range []int{r.Intn(256), one.freed + 127, one.sent + 127, one.freed + 127 + r.Intn(one.sent-one.freed+2)} {
					all, e := one.all(uint8(m % 256))
					wantList(t, what, one.x, uint8(m%256), all, e)
				}
				if e == api.OK {
					outs++
				}
				if e == api.OK && one.sent > 130 {
					rounds++
				}
			}
			for _, with := range [][2]*player{{p, q}, {q, p}, {p, p}, {p, nil}, {nil, q}} {
				l, k, e := change(with[0], with[1])
				wantChange(t, what, with[0].link(), with[1].link(), l, k, e)
				if len(l)+len(k) > 0 {
					changes++
				}
			}
		}
	}
	if outs < 3000 || changes < 500 || rounds < 500 {
		t.Errorf("out of service %d times, %d times where the numbers went round, %d changes with messages", outs, rounds, changes)
	}
}

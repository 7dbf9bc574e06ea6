package hold

import (
	"testing"

	"signalman/api"
)

// spare: how many places of a line's array have a message, where the line has none.
func (l line) spare() int {
	n := 0
	for _, p := range l.all[len(l.all):cap(l.all)] {
		if p != nil {
			n++
		}
	}
	return n
}

// with is a Hold with some that wait, some that weren't sent, and room in the arrays of both.
func with(t *testing.T) *Hold {
	t.Helper()
	h := New(20, 200)
	for i := range 8 {
		if e := h.Put([]byte{byte(i), 1, 2}); e != api.OK {
			t.Fatalf("Put: %d", e)
		}
	}
	for range 5 {
		h.Send()
	}
	if cap(h.sent.all) == len(h.sent.all) {
		t.Fatal("no room behind what waits: nothing is tested")
	}
	return h
}

// Rest puts what wasn't sent behind what waits without writing into the array of these.
func TestRestWritesNowhere(t *testing.T) {
	h := with(t)
	for n := range 128 {
		h.Rest(uint8(n))
	}
	if n := h.sent.spare(); n != 0 {
		t.Errorf("%d places behind what waits were written", n)
	}
}

// A message that was sent or freed isn't kept by the array in which it stood.
func TestNothingIsKept(t *testing.T) {
	h := with(t)
	waits, unsent := h.sent.all, h.next.all
	h.Send()
	if unsent[0] != nil {
		t.Error("a message that was sent is kept among those that weren't")
	}
	h.Free(2)
	for i, p := range waits[:3] {
		if p != nil {
			t.Errorf("the message %d that waits no more is kept", i)
		}
	}
}

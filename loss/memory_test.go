package loss_test

import (
	"slices"
	"testing"

	"turnpike/api"
)

// roomy: the same spans with spare room behind them, that is filled, and all of it.
func roomy(spans []api.Span) (list, whole []api.Span) {
	whole = append(slices.Clone(spans), each(900, 901, 902, 903)...)
	return whole[:len(spans)], whole
}

// spoil writes over numbers and their spare room.
func spoil(list []int) {
	list = list[:cap(list)]
	for i := range list {
		list[i] = -7777
	}
}

// P11.9: spans stay as they are, their spare room too, whatever comes of them.
func TestSpansAreNotChanged(t *testing.T) {
	x := newLife(t, 25)
	for n := range 30 {
		x.sent(2, n, 100, 0)
	}
	for _, c := range []struct {
		spans []api.Span
		delay int
		want  api.Errno
	}{
		{pairs(3, 5, 4, 4), 0, api.ErrPacket},
		{pairs(5, 9, 1, 2), 0, api.ErrPacket},
		{pairs(1, 2, 4, 99), 0, api.ErrPacket},
		{pairs(1, 2, 4, 6), -1, api.ErrRange},
		{pairs(1, 2, 4, 6), 0, api.OK},
		{pairs(1, 2, 4, 6), 0, api.OK},
		{pairs(0, 2, 4, 6, 9, 9, 20, 25), 5, api.OK},
		{apart(0, 15), 5, api.OK},
	} {
		list, whole := roomy(c.spans)
		before := slices.Clone(whole)
		if _, _, e := x.tryAck(2, list, c.delay, 100); e != c.want {
			t.Errorf("Ack(%v): %d", list, e)
		}
		if !slices.Equal(whole, before) {
			t.Errorf("the spans %v became %v", before, whole)
		}
	}
}

// P11.9: spans may be written over behind the call.
func TestSpansAreNotKept(t *testing.T) {
	x := newLife(t, 25)
	for n := range 10 {
		x.sent(1, n, 100, 0)
	}
	_, whole := roomy(pairs(1, 2, 4, 4))
	x.wantAck(1, whole[:2], 0, 100, []int{1, 2, 4}, []int{0})
	for i := range whole {
		whole[i] = api.Span{From: 0, To: 50}
	}
	x.look()
	x.wantAck(1, only(4, 4), 0, 100, nil, nil)
	x.refuseAck(1, only(0, 50), 0, 100, api.ErrPacket)
	x.wantFire(112, 1, []int{3}, false)
	x.wantDrop(1, []int{5, 6, 7, 8, 9})
}

// P11.9: what is told may be written over, its spare room too: no list has any of it in common with another, nor with what is kept.
func TestToldIsNewMemory(t *testing.T) {
	x := newLife(t, 25)
	for n := range 40 {
		x.sent(0, n, 100, 0)
		x.sent(1, n, 100, 0)
	}
	for _, spans := range [][]api.Span{only(5, 5), pairs(4, 4, 8, 9), pairs(6, 7, 20, 20)} {
		acked, lost, _ := x.tryAck(0, spans, 0, 100)
		keptLost := slices.Clone(lost)
		spoil(acked)
		if !slices.Equal(lost, keptLost) {
			t.Errorf("acked and lost share memory: %v, %v", lost, keptLost)
		}
		spoil(lost)
		x.look()
	}
	again, other, _ := x.tryAck(0, only(30, 31), 0, 100)
	first := slices.Clone(again)
	spoil(other)
	x.wantFire(112, 0, []int{29}, false)
	if !slices.Equal(again, first) {
		t.Errorf("an earlier answer became %v", again)
	}
	for _, at := range []int{39, 38} {
		acked, _, _ := x.tryAck(1, only(at, at), 0, 112)
		spoil(acked)
	}
	_, lost, _, _ := x.tryFire(500)
	spoil(lost)
	gone, _ := x.tryDrop(0)
	kept := slices.Clone(gone)
	for n := 40; n < 60; n++ {
		x.sent(0, n, 100, 500)
	}
	if !slices.Equal(gone, kept) || !slices.Equal(gone, numbersTo(32, 39)) {
		t.Errorf("what was dropped became %v", gone)
	}
	spoil(gone)
	x.wantDrop(0, numbersTo(40, 59))
}

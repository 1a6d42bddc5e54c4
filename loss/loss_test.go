package loss_test

import (
	"math"
	"testing"

	"turnpike/api"
	"turnpike/loss"
)

// last: the greatest time.
const last = 1 << 40

// The chapter's example, and what follows from it.
func TestExample(t *testing.T) {
	x := newLife(t, 25)
	for n := 1; n <= 5; n++ {
		x.sent(2, n, 1000, 0)
	}
	x.wantRoom(5000, 12000)
	x.wantAck(2, only(5, 5), 0, 100, []int{5}, []int{1, 2})
	x.wantTimer(112)
	x.wantRtt(100, 100, 100, 50)
	x.wantRoom(2000, 6500)
	x.wantFire(111, -1, nil, false)
	x.wantFire(112, 2, []int{3, 4}, false)
	x.wantRoom(0, 6500)
	x.wantNoTimer()
}

// P11.1: the delays that may be, and one less and more.
func TestNew(t *testing.T) {
	for _, most := range []int{math.MinInt, -1 << 14, -1, 1 << 14, 1<<14 + 1, api.MaxNum, math.MaxInt} {
		if l, e := loss.New(most); l != nil || e != api.ErrRange {
			t.Errorf("New(%d): %v, %d", most, l, e)
		}
	}
	for _, most := range []int{0, 1, 25, 1<<14 - 2, 1<<14 - 1} {
		x := newLife(t, most)
		x.wantRoom(0, 12000)
		x.wantRtt(0, 0, 333, 166)
		x.wantNoTimer()
		x.wantFire(0, -1, nil, false)
		for space := range 3 {
			x.wantDrop(space, nil)
			x.refuseAck(space, only(0, 0), 0, 0, api.ErrPacket)
		}
		x.sent(2, 0, 1200, 0)
		x.wantTimer(997 + most)
	}
}

// P11.1: what one is told, no other one knows.
func TestApart(t *testing.T) {
	x, y := newLife(t, 25), newLife(t, 25)
	x.sent(2, 7, 500, 1000)
	x.wantAck(2, only(7, 7), 0, 2000, []int{7}, nil)
	y.wantRtt(0, 0, 333, 166)
	y.wantRoom(0, 12000)
	y.sent(2, 7, 500, 0)
	y.wantTimer(1022)
}

// P11.2: numbers that are no space, in each call that has one, ahead of all other errors.
func TestNoSpace(t *testing.T) {
	x := newLife(t, 25)
	x.sent(0, 1, 100, 50)
	x.sent(2, 1, 100, 50)
	for _, space := range []int{math.MinInt, -3, -2, -1, 3, 4, 256, 1 << 32, math.MaxInt} {
		x.wantSent(space, 2, 100, true, 50, api.ErrSpace)
		x.wantSent(space, -1, -1, true, -1, api.ErrSpace)
		x.refuseAck(space, only(1, 1), 0, 50, api.ErrSpace)
		x.refuseAck(space, nil, -1, last+1, api.ErrSpace)
		if gone, e := x.tryDrop(space); len(gone) > 0 || e != api.ErrSpace {
			t.Errorf("Drop(%d): %v, %d", space, gone, e)
		}
	}
	x.sent(1, 1, 100, 50)
	for space := range 3 {
		x.wantAck(space, only(1, 1), 0, 60, []int{1}, nil)
		x.wantDrop(space, nil)
	}
}

// refusedTimes asks at a time that may not be, in each call that has one.
func refusedTimes(x *life, now int) {
	x.t.Helper()
	x.wantSent(0, 100, 100, true, now, api.ErrClock)
	x.wantSent(0, -1, -1, true, now, api.ErrClock)
	x.refuseAck(0, only(1, 1), 0, now, api.ErrClock)
	x.refuseAck(0, nil, -1, now, api.ErrClock)
	x.refuseFire(now)
}

// P11.2: times that are none, whatever was so far, ahead of all errors but the space's.
func TestNoTime(t *testing.T) {
	x := newLife(t, 25)
	never := []int{math.MinInt, -last, -1, last + 1, 1 << 41, math.MaxInt}
	for _, now := range never {
		refusedTimes(x, now)
	}
	x.sent(0, 1, 100, 0)
	x.sent(0, 2, 100, last)
	x.sent(0, 3, 100, last)
	x.wantAck(0, only(1, 1), 0, last, []int{1}, nil)
	x.wantFire(last, -1, nil, false)
	for _, now := range append(never, 0, last-1) {
		refusedTimes(x, now)
	}
	x.wantAck(0, only(2, 3), 0, last, []int{2, 3}, nil)
}

// P11.2: every call that has a time, and is not refused, holds all later ones to it; in whatever space.
func TestTimesDoNotFall(t *testing.T) {
	for name, call := range map[string]func(x *life, now int){
		"Sent":                       func(x *life, now int) { x.sent(1, 5, 100, now) },
		"a quiet Sent":               func(x *life, now int) { x.quiet(1, 5, now) },
		"Ack":                        func(x *life, now int) { x.wantAck(0, only(1, 1), 0, now, []int{1}, nil) },
		"an Ack of nothing new":      func(x *life, now int) { x.wantAck(0, only(0, 0), 0, now, nil, nil) },
		"a Fire that brings nothing": func(x *life, now int) { x.wantFire(now, -1, nil, false) },
	} {
		t.Run(name, func(t *testing.T) {
			x := newLife(t, 25)
			x.sent(0, 0, 100, 10)
			x.sent(0, 1, 100, 10)
			x.wantAck(0, only(0, 0), 0, 20, []int{0}, nil)
			refusedTimes(x, 19)
			call(x, 25)
			for _, now := range []int{0, 10, 20, 24} {
				refusedTimes(x, now)
			}
			x.sent(2, 9, 100, 25)
			x.wantFire(25, -1, nil, false)
			x.wantAck(2, only(9, 9), 0, 25, []int{9}, nil)
			x.sent(2, 10, 100, 26)
			refusedTimes(x, 25)
		})
	}
}

// P11.2, P11.6: the time of a Fire that has lost something or probes counts, too.
func TestTimesOfFire(t *testing.T) {
	x := newLife(t, 0)
	x.sent(0, 1, 100, 0)
	x.wantFire(1500, 0, nil, true)
	refusedTimes(x, 1499)
	x.sent(0, 2, 100, 1500)
	x.wantAck(0, only(2, 2), 0, 1500, []int{2}, []int{1})
	x.sent(0, 3, 100, 1501)
	x.sent(0, 4, 100, 1501)
	x.wantAck(0, only(4, 4), 0, 1501, []int{4}, nil)
	x.wantFire(1600, 0, []int{3}, false)
	refusedTimes(x, 1599)
	x.wantFire(1600, -1, nil, false)
}

// P11.2: the time of a call that was refused does not count, whatever it was refused for.
func TestRefusedTimesDoNotCount(t *testing.T) {
	x := newLife(t, 25)
	x.sent(0, 1, 100, 10)
	for _, now := range []int{11, 1000, last} {
		x.wantSent(3, 2, 100, true, now, api.ErrSpace)
		x.wantSent(0, 1, 100, true, now, api.ErrPacket)
		x.wantSent(0, 2, -1, true, now, api.ErrPacket)
		x.refuseAck(-1, only(1, 1), 0, now, api.ErrSpace)
		x.refuseAck(0, nil, 0, now, api.ErrPacket)
		x.refuseAck(0, only(2, 2), 0, now, api.ErrPacket)
		x.refuseAck(0, only(1, 1), -1, now, api.ErrRange)
	}
	x.refuseFire(last + 1)
	x.wantSent(0, 2, 100, true, last+1, api.ErrClock)
	x.wantDrop(1, nil)
	x.sent(0, 2, 100, 10)
	x.wantAck(0, only(1, 2), 0, 10, []int{1, 2}, nil)
}

// P11.2, P11.3: nor does that of a packet too many.
func TestRefusedMostDoesNotCount(t *testing.T) {
	x := newLife(t, 25)
	fill(x, 0, 0, 4096, 10)
	x.wantSent(0, 5000, 100, true, 999, api.ErrMost)
	x.sent(1, 0, 100, 11)
}

// fill sends packets from a number on, half of which elicit; the model is not asked, but told.
func fill(x *life, space, from, count, now int) {
	x.t.Helper()
	for n := from; n < from+count; n++ {
		if e := x.l.Sent(space, n, 3, n%2 == 0, now); e != api.OK {
			x.t.Fatalf("Sent(%d, %d): %d", space, n, e)
		}
		x.m.all = append(x.m.all, record{space, n, 3, now, n%2 == 0, true})
	}
	x.m.now = now
	x.look()
}

// P11.3: numbers rise in each space for itself, from 0 at least to MaxNum.
func TestNumbers(t *testing.T) {
	x := newLife(t, 25)
	refused := func(space int, numbers ...int) {
		t.Helper()
		for _, n := range numbers {
			x.wantSent(space, n, 100, true, 5, api.ErrPacket)
			x.wantSent(space, n, 100, false, 5, api.ErrPacket)
		}
	}
	for space := range 3 {
		refused(space, math.MinInt, -2, -1, api.MaxNum+1, math.MaxInt)
		x.sent(space, 0, 100, 5)
		refused(space, math.MinInt, -1, 0)
		x.quiet(space, 1, 5)
		refused(space, -1, 0, 1)
		x.sent(space, 10, 100, 5)
		refused(space, 0, 1, 2, 9, 10, api.MaxNum+1)
		x.sent(space, api.MaxNum-1, 100, 5)
		x.sent(space, api.MaxNum, 100, 5)
		refused(space, 11, api.MaxNum-1, api.MaxNum, api.MaxNum+1, math.MaxInt, math.MinInt)
	}
	x.wantRoom(3*400, 12000)
	for space := range 3 {
		x.wantDrop(space, []int{0, 1, 10, api.MaxNum - 1, api.MaxNum})
		refused(space, 0, 10, api.MaxNum)
	}
}

// P11.3: the first number of a space may be any; MaxNum too.
func TestFirstNumber(t *testing.T) {
	for _, n := range []int{0, 1, 2, 1000, api.MaxNum - 1, api.MaxNum} {
		x := newLife(t, 25)
		x.sent(1, n, 100, 0)
		x.wantSent(1, n, 100, true, 0, api.ErrPacket)
		x.wantAck(1, only(n, n), 0, 7, []int{n}, nil)
		x.wantSent(1, n, 100, true, 7, api.ErrPacket)
	}
}

// P11.3: numbers that were acknowledged or lost don't come again.
func TestNumbersDoNotComeAgain(t *testing.T) {
	x := newLife(t, 25)
	for n := range 5 {
		x.sent(2, n, 100, 0)
	}
	x.wantAck(2, only(4, 4), 0, 10, []int{4}, []int{0, 1})
	for n := range 5 {
		x.wantSent(2, n, 100, true, 10, api.ErrPacket)
	}
	x.sent(2, 5, 100, 10)
}

// P11.3: sizes from 0 to 65535, also of packets that do not elicit; these are under way with none.
func TestSizes(t *testing.T) {
	x := newLife(t, 25)
	for _, size := range []int{math.MinInt, -65536, -1, 65536, 1 << 32, math.MaxInt} {
		x.wantSent(0, 0, size, true, 0, api.ErrPacket)
		x.wantSent(0, 0, size, false, 0, api.ErrPacket)
	}
	x.sent(0, 0, 0, 0)
	x.wantRoom(0, 12000)
	x.wantTimer(997)
	x.sent(0, 1, 65535, 0)
	x.wantRoom(65535, 12000)
	x.wantSent(0, 2, 65535, false, 0, api.OK)
	x.wantSent(0, 3, 0, false, 0, api.OK)
	x.wantRoom(65535, 12000)
	x.sent(1, 0, 65534, 0)
	x.sent(2, 0, 1, 0)
	x.wantRoom(65535+65535, 12000)
	x.wantAck(0, only(0, 3), 0, 0, []int{0, 1, 2, 3}, nil)
	x.wantRoom(65535, 12000+65535)
}

// P11.3: 4096 packets of a space are out at the most, those that do not elicit among them.
func TestMostOut(t *testing.T) {
	x := newLife(t, 25)
	fill(x, 1, 0, 4095, 3)
	x.sent(1, 4095, 3, 3)
	for _, elicits := range []bool{true, false} {
		x.wantSent(1, 4096, 3, elicits, 3, api.ErrMost)
		x.wantSent(1, api.MaxNum, 3, elicits, 4, api.ErrMost)
		x.wantSent(1, 4095, 3, elicits, 3, api.ErrPacket)
		x.wantSent(1, 4096, 65536, elicits, 3, api.ErrPacket)
		x.wantSent(1, 4096, 3, elicits, 2, api.ErrClock)
	}
	x.sent(0, 0, 3, 3)
	x.sent(2, 0, 3, 3)
	x.wantAck(1, only(0, 0), 0, 4, []int{0}, nil)
	x.sent(1, 4096, 3, 4)
	x.wantSent(1, 4097, 3, true, 4, api.ErrMost)
	x.wantAck(1, only(3, 3), 0, 4, []int{3}, []int{1, 2})
	for n := 4097; n < 4100; n++ {
		x.sent(1, n, 3, 4)
	}
	x.wantSent(1, 4100, 3, true, 4, api.ErrMost)
	if gone, e := x.tryDrop(1); len(gone) != 4096 || e != api.OK {
		t.Errorf("Drop: %d packets, %d", len(gone), e)
	}
	fill(x, 1, 5000, 4096, 4)
	x.wantSent(1, 10000, 3, false, 4, api.ErrMost)
}

package loss_test

import (
	"math"
	"slices"
	"testing"

	"turnpike/api"
)

// apart: so many spans of one number each, from a number on, with one missing between two.
func apart(from, count int) []api.Span {
	var list []api.Span
	for i := range count {
		list = append(list, api.Span{From: from + 2*i, To: from + 2*i})
	}
	return list
}

// P11.4: spans that no ack has, though packets with their numbers are out.
func TestWrongSpans(t *testing.T) {
	x := newLife(t, 25)
	for n := range 200 {
		x.sent(0, n, 10, 0)
	}
	x.sent(0, api.MaxNum, 10, 0)
	for _, spans := range [][]api.Span{
		nil,
		{},
		pairs(-1, 3),
		pairs(math.MinInt, 3),
		pairs(-1, -1),
		pairs(-5, -4, 3, 3),
		pairs(4, 3),
		pairs(4, 3, 6, 7),
		pairs(0, 1, 4, 3),
		pairs(5, 5, 3, 3),
		pairs(5, 9, 0, 3),
		pairs(3, 3, 3, 3),
		pairs(3, 5, 5, 7),
		pairs(3, 5, 4, 4),
		pairs(3, 5, 6, 7),
		pairs(3, 5, 6, 6, 8, 9),
		pairs(3, 5, 7, 9, 10, 10),
		pairs(0, 0, 1, 1),
		pairs(0, 2, 1, 5, 7, 9),
		pairs(0, api.MaxNum+1),
		pairs(0, math.MaxInt),
		pairs(0, math.MaxInt, 5, 5),
		pairs(0, 3, math.MinInt, 5),
		pairs(0, api.MaxNum, 0, api.MaxNum),
		pairs(0, 3, 5, api.MaxNum+1),
		pairs(api.MaxNum, api.MaxNum, api.MaxNum+2, api.MaxNum+2),
		apart(0, 65),
		apart(0, 66),
		apart(0, 100),
	} {
		x.refuseAck(0, spans, 0, 5, api.ErrPacket)
		x.refuseAck(0, spans, -1, 5, api.ErrPacket)
		x.refuseAck(0, spans, 0, -1, api.ErrClock)
	}
	x.wantRoom(2010, 12000)
	x.wantRtt(0, 0, 333, 166)
}

// P11.4: one span to 64, with one number missing between two of them and with more.
func TestRightSpans(t *testing.T) {
	for _, count := range []int{1, 2, 3, 63, 64} {
		x := newLife(t, 25)
		var acked, lost []int
		for n := range 2 * count {
			x.sent(0, n, 10, 0)
			if n%2 == 0 {
				acked = append(acked, n)
			} else if n < 2*count-4 {
				lost = append(lost, n)
			}
		}
		x.wantAck(0, apart(0, count), 0, 100, acked, lost)
	}
	x := newLife(t, 25)
	for n := range 20 {
		x.sent(0, n, 10, 0)
	}
	x.wantAck(0, pairs(0, 0, 2, 4, 7, 7, 9, 15), 0, 100, []int{0, 2, 3, 4, 7, 9, 10, 11, 12, 13, 14, 15}, []int{1, 5, 6, 8})
	x = newLife(t, 25)
	x.sent(0, 4, 10, 0)
	x.sent(0, api.MaxNum, 10, 0)
	x.wantAck(0, only(0, api.MaxNum), api.MaxNum, 5, []int{4, api.MaxNum}, nil)
}

// P11.4: the last number must have been sent in this space, at any time; the others need not.
func TestNeverSent(t *testing.T) {
	x := newLife(t, 25)
	x.refuseAck(0, only(0, 0), 0, 0, api.ErrPacket)
	for n := 3; n < 600; n += 3 {
		x.sent(0, n, 10, 0)
	}
	x.sent(1, 1, 10, 0)
	x.sent(2, 1000, 10, 0)
	never := func(now int) {
		t.Helper()
		for _, n := range []int{0, 1, 2, 4, 5, 7, 298, 299, 596, 598, 600, 1000, api.MaxNum} {
			x.refuseAck(0, only(n, n), 0, now, api.ErrPacket)
			x.refuseAck(0, only(0, n), 0, now, api.ErrPacket)
			x.refuseAck(0, only(0, n), -1, now, api.ErrPacket)
		}
		x.refuseAck(0, pairs(3, 3, 5, 5), 0, now, api.ErrPacket)
		x.refuseAck(1, only(0, 0), 0, now, api.ErrPacket)
		x.refuseAck(1, only(3, 3), 0, now, api.ErrPacket)
		x.refuseAck(2, only(999, 999), 0, now, api.ErrPacket)
		x.refuseAck(2, only(0, 1001), 0, now, api.ErrPacket)
	}
	never(0)
	x.wantAck(0, only(0, 6), 0, 5, []int{3, 6}, nil)
	x.wantAck(0, pairs(0, 1, 4, 5, 8, 12), 0, 5, []int{9, 12}, nil)
	never(5)
	x.wantAck(0, only(590, 597), 0, 5, []int{591, 594, 597}, rangeBy3(15, 588))
	never(5)
	x.wantDrop(0, nil)
	never(5)
	for n := 3; n < 600; n += 3 {
		x.wantAck(0, only(n, n), 0, 5, nil, nil)
	}
	x.wantAck(2, only(1, 1000), 0, 5, []int{1000}, nil)
}

// rangeBy3: each third number from one to another.
func rangeBy3(from, to int) []int {
	var list []int
	for n := from; n <= to; n += 3 {
		list = append(list, n)
	}
	return list
}

// P11.4: delays from 0 to MaxNum; a wrong one is found behind wrong spans, and then nothing has changed.
func TestDelays(t *testing.T) {
	for space := range 3 {
		x := newLife(t, 25)
		x.sent(space, 1, 10, 0)
		x.sent(space, 2, 10, 0)
		for _, delay := range []int{math.MinInt, -1 << 40, -1, api.MaxNum + 1, math.MaxInt} {
			x.refuseAck(space, only(1, 2), delay, 5, api.ErrRange)
			x.refuseAck(space, only(2, 1), delay, 5, api.ErrPacket)
			x.refuseAck(space, only(1, 3), delay, 5, api.ErrPacket)
			x.refuseAck(space, only(1, 2), delay, last+1, api.ErrClock)
		}
		x.wantRoom(20, 12000)
		x.wantAck(space, only(1, 1), 0, 4, []int{1}, nil)
		x.wantAck(space, only(2, 2), api.MaxNum, 4, []int{2}, nil)
		x.refuseAck(space, only(2, 2), -1, 4, api.ErrRange)
	}
}

// P11.4: an acknowledgement of packets that are out no more changes nothing: no sample, no loss, no window, no probes.
func TestNothingNew(t *testing.T) {
	x := newLife(t, 0)
	for n := range 6 {
		x.sent(0, n, 1000, 0)
	}
	x.wantAck(0, only(5, 5), 0, 100, []int{5}, []int{0, 1, 2})
	x.sent(1, 1, 1000, 100)
	x.wantDrop(1, []int{1})
	x.wantTimer(112)
	for _, spans := range [][]api.Span{only(5, 5), only(0, 2), only(0, 0), each(0, 5), pairs(0, 2, 5, 5)} {
		x.wantAck(0, spans, 0, 5000, nil, nil)
	}
	x.wantAck(1, only(0, 1), 0, 5000, nil, nil)
	x.wantTimer(112)
	x.wantRtt(100, 100, 100, 50)
	x.wantRoom(2000, 6500)
	x.wantFire(5000, 0, []int{3, 4}, false)
	x.wantAck(0, only(0, 5), 0, 5000, nil, nil)
	x.sent(0, 6, 1000, 5000)
	x.wantFire(6000, 0, nil, true)
	x.wantTimer(5000 + 2*300)
	x.wantAck(0, only(0, 5), 0, 6000, nil, nil)
	x.wantTimer(5000 + 2*300)
	x.wantAck(0, only(0, 6), 0, 6000, []int{6}, nil)
	x.wantRtt(1000, 100, (7*100+1000)/8, (3*50+900)/4)
}

// P11.4: packets of other spaces with the same numbers stay out.
func TestSpacesApart(t *testing.T) {
	x := newLife(t, 25)
	for space := range 3 {
		for n := range 4 {
			x.sent(space, n, 100<<space, 0)
		}
	}
	x.wantRoom(400*7, 12000)
	x.wantAck(1, only(3, 3), 0, 10, []int{3}, []int{0})
	x.wantRoom(400*7-400, 6100)
	x.wantAck(0, only(0, 3), 0, 10, []int{0, 1, 2, 3}, nil)
	x.wantAck(2, only(1, 2), 0, 10, []int{1, 2}, nil)
	x.wantDrop(0, nil)
	x.wantDrop(1, []int{1, 2})
	x.wantDrop(2, []int{0, 3})
}

// P11.4: the first sample, in each space, whatever the delay.
func TestFirstSample(t *testing.T) {
	for space := range 3 {
		for _, delay := range []int{0, 1, 24, 25, 26, api.MaxNum} {
			for _, took := range []int{0, 1, 2, 3, 101, last - 7} {
				x := newLife(t, 25)
				x.sent(space, 1, 100, 7)
				x.wantAck(space, only(1, 1), delay, 7+took, []int{1}, nil)
				x.wantRtt(took, took, took, took/2)
			}
		}
	}
}

// sampled: behind one sample of 100 ticks, at 100.
func sampled(t *testing.T, most int) *life {
	t.Helper()
	x := newLife(t, most)
	x.sent(0, 0, 0, 0)
	x.wantAck(0, only(0, 0), 0, 100, []int{0}, nil)
	x.wantRtt(100, 100, 100, 50)
	return x
}

// P11.4: later samples, by hand: the cut counts in the space 2 alone, as far as most, and where least and cut leave room for it.
func TestLaterSamples(t *testing.T) {
	for _, c := range []struct {
		most, space, delay, latest int
		least, smooth, vary        int
	}{
		{25, 2, 0, 150, 100, 106, 50},
		{25, 2, 10, 150, 100, 105, 47},
		{25, 2, 24, 150, 100, 103, 44},
		{25, 2, 25, 150, 100, 103, 43},
		{25, 2, 26, 150, 100, 103, 43},
		{25, 2, 1000, 150, 100, 103, 43},
		{25, 2, api.MaxNum, 150, 100, 103, 43},
		{25, 2, 25, 124, 100, 103, 43}, // one less than least and cut
		{25, 2, 25, 125, 100, 100, 37}, // just least and cut
		{25, 2, 99, 126, 100, 100, 37},
		{25, 2, 9, 110, 100, 100, 37},
		{25, 2, 10, 110, 100, 100, 37},
		{25, 2, 11, 110, 100, 101, 40},
		{25, 2, 25, 100, 100, 100, 37},
		{25, 2, 25, 99, 99, 99, 37},
		{25, 2, 25, 60, 60, 95, 47},
		{25, 2, 0, 60, 60, 95, 47},
		{25, 2, 0, 0, 0, 87, 62},
		{25, 2, 25, 0, 0, 87, 62},
		{0, 2, 10, 150, 100, 106, 50},
		{16383, 2, 16383, 20000, 100, 539, 916},
		{16383, 2, 16384, 20000, 100, 539, 916},
		{16383, 2, 16382, 20000, 100, 539, 917},
		{25, 1, 10, 150, 100, 106, 50},
		{25, 0, 10, 150, 100, 106, 50},
		{25, 1, api.MaxNum, 60, 60, 95, 47},
		{25, 0, 25, 60, 60, 95, 47},
	} {
		x := sampled(t, c.most)
		x.sent(c.space, 1, 100, 100)
		x.wantAck(c.space, only(1, 1), c.delay, 100+c.latest, []int{1}, nil)
		x.wantRtt(c.latest, c.least, c.smooth, c.vary)
	}
}

// P11.4: samples one behind the other; a first one of nothing is a first one all the same.
func TestSampleOfNothing(t *testing.T) {
	x := newLife(t, 25)
	x.sent(2, 1, 100, 5)
	x.wantAck(2, only(1, 1), 3, 5, []int{1}, nil)
	x.wantRtt(0, 0, 0, 0)
	x.sent(2, 2, 100, 5)
	x.wantAck(2, only(2, 2), 0, 105, []int{2}, nil)
	x.wantRtt(100, 0, 12, 25)
	x.sent(2, 3, 100, 105)
	x.wantAck(2, only(3, 3), 4, 115, []int{3}, nil)
	x.wantRtt(10, 0, 11, 20) // x is 6: (75 + 6) / 4, (84 + 6) / 8
	x.sent(0, 3, 100, 115)
	x.wantAck(0, only(3, 3), 4, 125, []int{3}, nil)
	x.wantRtt(10, 0, 10, 15)
}

// P11.4: no sample, if the last number is out no more, or nothing that arrived elicits.
func TestNoSample(t *testing.T) {
	x := sampled(t, 25)
	for n := 1; n <= 6; n++ {
		x.sent(0, n, 100, 100)
	}
	x.wantAck(0, only(6, 6), 0, 130, []int{6}, []int{1, 2, 3})
	x.wantRtt(30, 30, 91, 55)
	x.wantAck(0, each(4, 6), 0, 150, []int{4}, nil)
	x.wantRtt(30, 30, 91, 55)
	x.wantAck(0, only(1, 6), 0, 150, []int{5}, nil)
	x.wantRtt(30, 30, 91, 55)
	x.quiet(0, 7, 150)
	x.wantAck(0, only(0, 7), 0, 151, []int{7}, nil)
	x.wantRtt(30, 30, 91, 55)
	// a lower number elicits, the last does not: the time is the last's
	x.sent(0, 8, 100, 151)
	x.quiet(0, 9, 161)
	x.wantAck(0, only(8, 9), 0, 252, []int{8, 9}, nil)
	x.wantRtt(91, 30, 91, 41)
	// the last elicits, the lower one does not
	x.quiet(0, 10, 252)
	x.sent(0, 11, 100, 262)
	x.wantAck(0, only(8, 11), 0, 353, []int{10, 11}, nil)
	x.wantRtt(91, 30, 91, 30)
	// the last is told alone, what elicits stays out
	x.sent(0, 12, 100, 353)
	x.quiet(0, 13, 353)
	x.wantAck(0, only(13, 13), 0, 354, []int{13}, nil)
	x.wantRtt(91, 30, 91, 30)
}

// P11.4: below the threshold, which there is none of at first, the window grows by all that arrives and elicits.
func TestWindowGrows(t *testing.T) {
	x := newLife(t, 25)
	x.sent(0, 0, 1, 0)
	x.sent(0, 1, 65535, 0)
	x.sent(0, 2, 0, 0)
	x.quiet(0, 3, 0)
	x.sent(1, 0, 700, 0)
	x.wantAck(0, only(0, 0), 0, 1, []int{0}, nil)
	x.wantRoom(65535+700, 12001)
	x.wantAck(0, only(0, 3), 0, 1, []int{1, 2, 3}, nil)
	x.wantRoom(700, 12001+65535)
	x.wantAck(1, only(0, 0), 0, 1, []int{0}, nil)
	x.wantRoom(0, 12701+65535)
	for n := 4; n < 1000; n++ {
		x.sent(2, n, 65535, 1)
	}
	x.wantAck(2, only(4, 999), 0, 1, numbersTo(4, 999), nil)
	x.wantRoom(0, 12701+997*65535)
}

// numbersTo: all numbers from one to another.
func numbersTo(from, to int) []int {
	var list []int
	for n := from; n <= to; n++ {
		list = append(list, n)
	}
	return list
}

// halved: a loss at 100 has halved the window to 6500; 5 was acknowledged, nothing is out.
func halved(t *testing.T) *life {
	t.Helper()
	x := newLife(t, 25)
	for n := 1; n <= 5; n++ {
		x.sent(2, n, 1000, 0)
	}
	x.wantAck(2, only(5, 5), 0, 100, []int{5}, []int{1, 2})
	x.wantDrop(2, []int{3, 4})
	x.wantRoom(0, 6500)
	return x
}

// P11.4: at the threshold and above it the window grows by 1200 * size / window, packet by packet, rising.
func TestWindowGrowsSlowly(t *testing.T) {
	x := halved(t)
	for n, size := range []int{1000, 65535, 1, 5, 15, 16, 1200} {
		x.sent(2, 10+n, size, 101)
	}
	x.wantAck(2, only(10, 10), 0, 101, []int{10}, nil)
	x.wantRoom(66772, 6500+184)
	x.wantAck(2, only(10, 13), 0, 101, []int{11, 12, 13}, nil)
	x.wantRoom(1231, 6684+11765) // 1 and 5 bring nothing any more
	x.wantAck(2, only(15, 16), 0, 101, []int{15, 16}, nil)
	x.wantRoom(15, 18449+1+78)
	y := halved(t)
	y.sent(2, 10, 5, 101)
	y.sent(2, 11, 6, 101)
	y.sent(2, 12, 65535, 101)
	y.sent(2, 13, 15, 101)
	y.wantAck(2, only(10, 13), 0, 101, numbersTo(10, 13), nil)
	y.wantRoom(0, 6500+0+1+12096+0)
	z := halved(t)
	z.sent(2, 10, 65535, 101)
	z.sent(2, 11, 1000, 101)
	z.wantAck(2, only(10, 11), 0, 101, numbersTo(10, 11), nil)
	z.wantRoom(0, 6500+12098+64)
}

// P11.4: packets sent at recovery or ahead of it bring no window; also those of other spaces.
func TestWindowInRecovery(t *testing.T) {
	x := newLife(t, 25)
	x.sent(0, 1, 1000, 0)
	x.sent(1, 1, 1000, 99)
	for n := 1; n <= 5; n++ {
		x.sent(2, n, 1000, 99)
	}
	x.sent(1, 2, 1000, 100)
	x.sent(2, 6, 1000, 100)
	x.wantAck(2, only(5, 5), 0, 100, []int{5}, []int{1, 2, 3, 4})
	x.wantRoom(4000, 6500)
	x.sent(1, 3, 1000, 100)
	x.sent(1, 4, 1000, 101)
	x.sent(0, 2, 1000, 101)
	x.wantAck(0, only(1, 1), 0, 101, []int{1}, nil)
	x.wantAck(1, only(1, 3), 0, 101, []int{1, 2, 3}, nil)
	x.wantAck(2, only(6, 6), 0, 101, []int{6}, nil)
	x.wantRoom(2000, 6500)
	x.wantAck(1, only(4, 4), 0, 101, []int{4}, nil)
	x.wantRoom(1000, 6684)
	x.wantAck(0, only(2, 2), 0, 101, []int{2}, nil)
	x.wantRoom(0, 6684+1200*1000/6684)
}

// P11.4: packets that were sent and arrive within one tick count at the time 0, too: recovery is -1 at first.
func TestWindowAtTheBeginning(t *testing.T) {
	x := newLife(t, 25)
	x.sent(0, 0, 1000, 0)
	x.wantAck(0, only(0, 0), 0, 0, []int{0}, nil)
	x.wantRoom(0, 13000)
	for n := 1; n <= 4; n++ {
		x.sent(0, n, 1000, 0)
	}
	x.wantAck(0, only(4, 4), 0, 0, []int{4}, []int{1})
	x.wantRoom(2000, 7000)
	x.wantAck(0, only(3, 3), 0, 0, []int{3}, nil)
	x.wantRoom(1000, 7000)
}

// P11.4: losses by number: three below the greatest that was acknowledged, no less.
func TestLostByNumber(t *testing.T) {
	for g := range 8 {
		x := newLife(t, 25)
		for n := range 10 {
			x.sent(1, n, 10, 50)
		}
		x.wantAck(1, only(g, g), 0, 60, []int{g}, numbersTo(0, g-3))
		x.wantDrop(1, slices.Concat(numbersTo(max(0, g-2), g-1), numbersTo(g+1, 9)))
	}
	x := newLife(t, 25)
	for _, n := range []int{1, 6, 7, 8, 9, 10, 20} {
		x.sent(1, n, 10, 50)
	}
	x.wantAck(1, only(10, 10), 0, 60, []int{10}, []int{1, 6, 7})
	x.wantAck(1, only(20, 20), 0, 60, []int{20}, []int{8, 9})
}

// P11.4: the greatest number that was ever acknowledged holds, though a later acknowledgement tells lower ones.
func TestGreatestEver(t *testing.T) {
	x := newLife(t, 25)
	for n := range 8 {
		x.sent(1, n, 10, n)
	}
	x.wantAck(1, only(3, 3), 0, 80, []int{3}, []int{0})
	x.wantTimer(1 + 86)
	x.wantAck(1, only(1, 1), 0, 80, []int{1}, nil)
	x.wantTimer(2 + 88) // 2 is below 3 still
	x.wantAck(1, only(7, 7), 0, 80, []int{7}, []int{2, 4})
	x.wantTimer(5 + 85)
	x.wantAck(1, only(5, 5), 0, 80, []int{5}, nil)
	x.wantTimer(6 + 84)
	x.wantAck(1, only(6, 6), 0, 80, []int{6}, nil)
	x.wantNoTimer()
}

// P11.4: losses by time: sent d ahead, and one tick less; d is 9/8 of the greater of latest and smooth, and 1 at least.
func TestLostByTime(t *testing.T) {
	for _, c := range []struct{ took, d int }{{0, 1}, {1, 1}, {2, 2}, {7, 7}, {8, 9}, {15, 16}, {16, 18}, {100, 112}, {1000, 1125}} {
		for early := range 2 {
			x := newLife(t, 25)
			at := 5000
			x.sent(1, 1, 10, at-c.d+early)
			if x.m.now < at-c.took {
				x.wantFire(at-c.took, -1, nil, false)
			}
			if x.m.now > at-c.took {
				continue // the later packet can't have been sent ahead of the earlier one
			}
			x.sent(1, 2, 10, at-c.took)
			if early == 0 {
				x.wantAck(1, only(2, 2), 0, at, []int{2}, []int{1})
				x.wantNoTimer()
				continue
			}
			x.wantAck(1, only(2, 2), 0, at, []int{2}, nil)
			x.wantTimer(at + 1)
			x.wantFire(at, -1, nil, false)
			x.wantFire(at+1, 1, []int{1}, false)
		}
	}
}

// P11.4: d is by latest, if that is above smooth, else by smooth.
func TestPatience(t *testing.T) {
	x := sampled(t, 25) // smooth is 100
	x.sent(1, 1, 10, 100)
	x.sent(1, 2, 10, 100)
	x.wantAck(1, only(2, 2), 0, 116, []int{2}, nil)
	x.wantRtt(16, 16, 89, 58)
	x.wantTimer(100 + 89*9/8)
	x = sampled(t, 25)
	x.sent(1, 1, 10, 299)
	x.sent(1, 2, 10, 299)
	x.wantAck(1, only(2, 2), 0, 499, []int{2}, nil)
	x.wantRtt(200, 100, 112, 62)
	x.wantTimer(299 + 225)
}

// P11.4: without a sample d is by the first smooth, 333.
func TestPatienceWithoutSample(t *testing.T) {
	for early := range 2 {
		x := newLife(t, 25)
		x.sent(2, 1, 10, early)
		x.quiet(2, 2, 1)
		x.wantAck(2, only(2, 2), 0, 373, []int{2}, nil)
		x.wantTimer(374 + early)
		x.wantRtt(0, 0, 333, 166)
		x.wantFire(374, 2-3*early, []int{1}[early:], false)
	}
}

// P11.4: what does not elicit is lost as well, and has loss times, but the window does not fall by it.
func TestQuietLost(t *testing.T) {
	x := newLife(t, 25)
	for n := range 3 {
		x.quiet(0, n, 0)
	}
	x.sent(0, 3, 1000, 0)
	x.wantAck(0, only(3, 3), 0, 80, []int{3}, []int{0})
	x.wantRoom(0, 13000)
	x.wantTimer(90)
	x.wantFire(90, 0, []int{1, 2}, false)
	x.wantRoom(0, 13000)
	x.sent(0, 4, 1000, 90)
	x.wantAck(0, only(4, 4), 0, 100, []int{4}, nil)
	x.wantRoom(0, 14000) // there is no recovery
}

// P11.4: a loss that elicits begins recovery, if it was sent behind the last one; the latest of several tells.
func TestRecovery(t *testing.T) {
	x := newLife(t, 25)
	for n := range 10 {
		x.sent(0, n, 1000, 0)
	}
	x.sent(0, 10, 1000, 100)
	x.wantAck(0, only(4, 4), 0, 100, []int{4}, []int{0, 1})
	x.wantRoom(8000, 6500)
	x.wantAck(0, only(9, 9), 0, 101, []int{9}, []int{2, 3, 5, 6})
	x.wantRoom(3000, 6500) // all of them were sent ahead of recovery
	x.sent(0, 11, 1000, 101)
	x.sent(0, 12, 1000, 101)
	x.sent(0, 13, 1000, 102)
	x.wantAck(0, only(13, 13), 0, 102, []int{13}, []int{7, 8, 10})
	x.wantRoom(2000, 6684) // 10 was sent at recovery
	x.sent(0, 14, 1000, 102)
	x.wantAck(0, only(14, 14), 0, 103, []int{14}, []int{11})
	x.wantRoom(1000, (6684+179)/2) // 11 was sent behind it
	x.sent(0, 15, 1000, 103)
	x.wantAck(0, only(15, 15), 0, 103, []int{15}, []int{12})
	x.wantRoom(0, 3431) // 12 was not, by now, nor 15
}

// P11.4: a quiet packet that was sent late does not speak for those that elicit.
func TestRecoveryByThoseThatElicit(t *testing.T) {
	x := newLife(t, 25)
	for n := range 5 {
		x.sent(0, n, 1000, 0)
	}
	x.wantAck(0, only(4, 4), 0, 100, []int{4}, []int{0, 1})
	x.wantRoom(2000, 6500)
	x.quiet(0, 5, 200)
	x.quiet(0, 6, 200)
	x.quiet(0, 7, 200)
	x.quiet(0, 8, 200)
	x.wantAck(0, only(8, 8), 0, 200, []int{8}, []int{2, 3, 5})
	x.wantRoom(0, 6500)
	x.sent(0, 9, 1000, 200)
	x.quiet(0, 10, 200)
	x.quiet(0, 11, 200)
	x.quiet(0, 12, 200)
	x.wantAck(0, only(12, 12), 0, 200, []int{12}, []int{6, 7, 9})
	x.wantRoom(0, 3250) // 9 elicits
}

// lose: a packet of a space that elicits was sent and is lost, both behind what was so far; how many numbers it takes.
func lose(x *life, space, from, now int) int {
	x.t.Helper()
	x.sent(space, from, 1000, now)
	for n := from + 1; n <= from+3; n++ {
		x.quiet(space, n, now)
	}
	x.wantAck(space, only(from+3, from+3), 0, now, []int{from + 3}, numbersTo(from, from))
	x.wantDrop(space, []int{from + 1, from + 2})
	return 4
}

// P11.4: the window falls to 2400 and no lower; the threshold does.
func TestLeastWindow(t *testing.T) {
	x := newLife(t, 25)
	number := 0
	for i, window := range []int{6000, 3000, 2400, 2400, 2400} {
		number += lose(x, i%3, number, i)
		x.wantRoom(0, window)
	}
	// the threshold is 1200 by now: the window is above it, and grows slowly
	x.sent(0, 1000, 1200, 5)
	x.wantAck(0, only(1000, 1000), 0, 6, []int{1000}, nil)
	x.wantRoom(0, 2400+600)
}

// P11.4: the window when the half is just above 2400, at it and below it, and odd.
func TestHalves(t *testing.T) {
	for _, c := range []struct{ grown, first, second int }{
		{0, 6000, 3000},
		{1, 6000, 3000},
		{2, 6001, 3000},
		{65535, 38767, 19383},
	} {
		x := newLife(t, 25)
		x.sent(1, 0, c.grown, 0)
		x.wantAck(1, only(0, 0), 0, 0, []int{0}, nil)
		lose(x, 0, 0, 1)
		x.wantRoom(0, c.first)
		lose(x, 0, 10, 2)
		x.wantRoom(0, c.second)
	}
	x := newLife(t, 25)
	lose(x, 0, 0, 1)
	lose(x, 0, 10, 2)
	x.sent(0, 20, 4500, 3)
	x.wantAck(0, only(20, 20), 0, 3, []int{20}, nil)
	x.wantRoom(0, 4800)
	lose(x, 0, 30, 4)
	x.wantRoom(0, 2400)
	x.sent(0, 40, 2, 5)
	x.wantAck(0, only(40, 40), 0, 5, []int{40}, nil)
	x.wantRoom(0, 2401) // the threshold is 2400 itself
}

// P11.4: several losses in one acknowledgement halve the window once; growth by it comes first.
func TestGrowthAheadOfLoss(t *testing.T) {
	x := newLife(t, 25)
	for n := range 20 {
		x.sent(0, n, 1000, n)
	}
	x.wantAck(0, each(1, 17, 19), 0, 25, []int{1, 17, 19}, slices.Concat([]int{0}, numbersTo(2, 16), []int{18}))
	x.wantRoom(0, 7500)
}

// P11.4: the loss time goes by the earliest that is out still, and goes away with the last of them.
func TestLossTime(t *testing.T) {
	x := newLife(t, 25)
	x.sent(0, 0, 10, 11)
	x.quiet(0, 1, 12)
	x.sent(0, 2, 10, 20)
	x.wantAck(0, only(2, 2), 0, 100, []int{2}, nil)
	x.wantTimer(11 + 90) // by latest, 80
	x.wantFire(100, -1, nil, false)
	x.wantFire(101, 0, []int{0}, false)
	x.wantTimer(12 + 90)
	x.wantFire(102, 0, []int{1}, false)
	x.wantNoTimer()
	x = newLife(t, 25)
	x.sent(0, 0, 10, 65)
	x.quiet(0, 1, 66)
	x.sent(0, 2, 10, 70)
	x.sent(0, 3, 10, 75)
	x.wantAck(0, only(2, 2), 0, 150, []int{2}, nil)
	x.wantTimer(65 + 90)
	x.wantAck(0, only(1, 1), 0, 150, []int{1}, nil)
	x.wantTimer(65 + 90)
	x.wantAck(0, only(0, 0), 0, 150, []int{0}, nil)
	x.wantTimer(75 + 80 + 4*31)
}

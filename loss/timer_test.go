package loss_test

import (
	"testing"

	"turnpike/api"
)

// P11.5: without a sample a probe is due 333 and 4 * 166 behind the last packet that elicits, in the space 2 most behind that.
func TestTimerWithoutSample(t *testing.T) {
	for _, most := range []int{0, 25, 1<<14 - 1} {
		for space := range 3 {
			x := newLife(t, most)
			wait := 997
			if space == 2 {
				wait += most
			}
			x.quiet(space, 0, 5)
			x.wantNoTimer()
			x.sent(space, 1, 100, 10)
			x.wantTimer(10 + wait)
			x.sent(space, 2, 100, 10)
			x.wantTimer(10 + wait)
			x.sent(space, 5, 0, 30)
			x.wantTimer(30 + wait)
			x.quiet(space, 6, 40)
			x.wantTimer(30 + wait)
			x.wantFire(30+wait-1, -1, nil, false)
			x.wantFire(30+wait, space, nil, true)
			x.wantTimer(30 + 2*wait)
		}
	}
}

// P11.5: with samples it is smooth and 4 var; 1 in place of 4 var, if that is 0.
func TestTimerWithSamples(t *testing.T) {
	for _, c := range []struct{ took, wait int }{{0, 1}, {1, 2}, {2, 6}, {3, 7}, {100, 300}, {101, 301}} {
		for space := range 3 {
			x := newLife(t, 25)
			x.sent(0, 0, 100, 7)
			x.wantAck(0, only(0, 0), 0, 7+c.took, []int{0}, nil)
			x.wantNoTimer()
			now, wait := 7+c.took, c.wait
			if space == 2 {
				wait += 25
			}
			x.sent(space, 9, 100, now)
			x.wantTimer(now + wait)
			x.wantFire(now+wait, space, nil, true)
			x.wantTimer(now + 2*wait)
		}
	}
}

// P11.5: the least of the spaces, by the last packet of each; a space with nothing out that elicits has no part in it.
func TestTimerOfSeveralSpaces(t *testing.T) {
	x := newLife(t, 25)
	x.sent(2, 0, 100, 0)
	x.wantTimer(1022)
	x.sent(1, 0, 100, 24)
	x.wantTimer(1021)
	x.sent(2, 1, 100, 30)
	x.wantTimer(1021)
	x.sent(1, 1, 100, 40)
	x.wantTimer(1037)
	x.sent(1, 2, 100, 60)
	x.wantTimer(1052)
	x.sent(0, 0, 100, 70)
	x.wantTimer(1052)
	x.wantDrop(2, []int{0, 1})
	x.wantTimer(1057)
	x.wantDrop(1, []int{0, 1, 2})
	x.wantTimer(1067)
	x.wantDrop(0, []int{0})
	x.wantNoTimer()
}

// P11.5: a space with nothing out but packets that do not elicit is not probed; it may have a loss time.
func TestTimerOfQuietSpaces(t *testing.T) {
	x := newLife(t, 25)
	x.quiet(0, 0, 49)
	x.quiet(1, 0, 49)
	x.wantNoTimer()
	x.sent(2, 0, 100, 50)
	x.wantTimer(50 + 1022)
	x.sent(1, 1, 100, 60)
	x.wantTimer(60 + 997)
	x.wantAck(1, only(1, 1), 0, 160, []int{1}, nil)
	x.wantTimer(49 + 112)
	x.wantFire(160, -1, nil, false)
	x.wantFire(161, 1, []int{0}, false)
	x.wantTimer(50 + 325)
	x.wantAck(2, only(0, 0), 0, 161, []int{0}, nil)
	x.wantNoTimer()
	x.wantFire(last, -1, nil, false)
}

// P11.5, P11.6: each probe that nothing follows doubles the wait, 20 times at the most.
func TestProbes(t *testing.T) {
	x := newLife(t, 3)
	x.sent(2, 1, 100, 7)
	now := 0
	for n := range 25 {
		wait := 1000 << min(n, 20)
		x.wantTimer(7 + wait)
		if now < 7+wait-1 {
			x.wantFire(7+wait-1, -1, nil, false)
		}
		now = 7 + wait
		x.wantFire(now, 2, nil, true)
	}
	x.wantTimer(7 + 1000<<20)
	x.sent(2, 2, 100, now)
	x.wantTimer(now + 1000<<20)
	x.sent(0, 2, 100, now)
	x.wantTimer(now + 997<<20)
	// what arrives makes an end of it, also in another space and without a sample
	x.quiet(1, 1, now)
	x.wantAck(1, only(1, 1), 0, now, []int{1}, nil)
	x.wantTimer(now + 997)
}

// P11.5: probes count for all spaces together.
func TestProbesOfAllSpaces(t *testing.T) {
	x := newLife(t, 25)
	x.sent(0, 0, 100, 0)
	x.wantFire(997, 0, nil, true)
	x.sent(1, 0, 100, 1000)
	x.wantTimer(2 * 997)
	x.wantFire(2*997, 0, nil, true)
	x.wantTimer(4 * 997)
	x.wantDrop(0, []int{0})
	x.wantTimer(1000 + 4*997)
	x.wantDrop(1, []int{0})
	x.wantNoTimer()
	x.sent(2, 0, 100, 3000)
	x.wantTimer(3000 + 4*1022)
}

// P11.5, P11.6: the greatest numbers that can come up.
func TestGreatTimes(t *testing.T) {
	x := newLife(t, 1<<14-1)
	x.sent(2, 1, 100, 0)
	x.wantAck(2, only(1, 1), 0, last, []int{1}, nil)
	x.wantRtt(last, last, last, last/2)
	x.sent(2, 2, 100, last)
	x.wantTimer(last + 3*last + 1<<14 - 1)
	x.sent(2, 3, 100, last)
	x.wantAck(2, only(3, 3), 0, last, []int{3}, nil)
	x.wantRtt(0, 0, last/8*7, last/8*5)
	x.wantTimer(last + last/64*63) // d by smooth
	x.wantFire(last, -1, nil, false)

	// each of these probes is due at once
	x = newLife(t, 1<<14-1)
	x.sent(1, 0, 100, 0)
	x.sent(2, 0, 100, 0)
	for range 30 {
		x.wantFire(last, 1, nil, true)
	}
	x.wantTimer(997 << 20)
}

// P11.6: ahead of the timer, at it and behind it.
func TestFireAndTimer(t *testing.T) {
	for late := -2; late < 3; late++ {
		x := newLife(t, 25)
		x.sent(1, 4, 100, 3)
		if late < 0 {
			x.wantFire(1000+late, -1, nil, false)
			x.wantTimer(1000)
		} else {
			x.wantFire(1000+late, 1, nil, true)
			x.wantTimer(3 + 2*997)
		}
		x.wantRoom(100, 12000) // a probe is no loss
		x = newLife(t, 25)
		x.sent(1, 4, 100, 0)
		x.sent(1, 5, 100, 0)
		x.wantAck(1, only(5, 5), 0, 800, []int{5}, nil)
		x.wantTimer(900)
		if late < 0 {
			x.wantFire(900+late, -1, nil, false)
			x.wantTimer(900)
			x.wantRoom(100, 12100)
		} else {
			x.wantFire(900+late, 1, []int{4}, false)
			x.wantNoTimer()
			x.wantRoom(0, 6050)
		}
	}
	x := newLife(t, 25)
	for _, now := range []int{0, 5, 5, last} {
		x.wantFire(now, -1, nil, false)
	}
}

// lossTimes: spaces in which a packet has a loss time: sent at those times, with d 112; a time of -1 leaves the space out.
func lossTimes(t *testing.T, times ...int) *life {
	t.Helper()
	x := sampled(t, 25)
	for at := 100; at <= 200; at++ {
		for space, time := range times {
			if time == at {
				x.sent(space, 1, 100, at)
			}
		}
	}
	for space, time := range times {
		if time >= 0 {
			x.quiet(space, 2, 200)
			x.wantAck(space, only(2, 2), 0, 200, []int{2}, nil)
		}
	}
	x.wantRtt(100, 100, 100, 50)
	return x
}

// P11.6: of several loss times the least, the first space of several; one space at a time.
func TestFireOfSeveralLossTimes(t *testing.T) {
	for _, c := range []struct {
		times  []int
		spaces []int // in the order in which they have their losses
	}{
		{[]int{150, 150, 150}, []int{0, 1, 2}},
		{[]int{150, 140, 130}, []int{2, 1, 0}},
		{[]int{150, 140, 140}, []int{1, 2, 0}},
		{[]int{150, 150, 140}, []int{2, 0, 1}},
		{[]int{140, 150, 140}, []int{0, 2, 1}},
		{[]int{-1, 150, 150}, []int{1, 2}},
		{[]int{-1, 150, 140}, []int{2, 1}},
		{[]int{150, -1, 120}, []int{2, 0}},
		{[]int{-1, -1, 200}, []int{2}},
		{[]int{200, -1, -1}, []int{0}},
	} {
		x := lossTimes(t, c.times...)
		for _, space := range c.spaces {
			x.wantTimer(c.times[space] + 112)
			x.wantFire(last, space, []int{1}, false)
		}
		x.wantNoTimer()
		x.wantFire(last, -1, nil, false)
		x = lossTimes(t, c.times...)
		for _, space := range c.spaces {
			at := c.times[space] + 112
			if x.m.now < at-1 {
				x.wantFire(at-1, -1, nil, false)
			}
			x.wantFire(at, space, []int{1}, false)
		}
	}
}

// P11.5, P11.6: a loss time goes ahead of every probe, also of one that would be due sooner, and no probe is counted for it.
func TestLossTimeAheadOfProbes(t *testing.T) {
	x := newLife(t, 0)
	x.sent(0, 0, 100, 0)
	x.wantAck(0, only(0, 0), 0, 0, []int{0}, nil) // smooth and var are 0: a probe is due a tick later
	x.sent(0, 1, 100, 1000)
	x.sent(1, 1, 100, 1000)
	x.sent(1, 2, 100, 2000)
	x.wantAck(1, only(2, 2), 0, 2000, []int{2}, []int{1})
	x.wantTimer(1001)
	x = newLife(t, 0)
	x.sent(0, 1, 100, 0)
	x.sent(1, 1, 100, 0)
	x.sent(1, 2, 100, 1)
	x.wantAck(1, only(2, 2), 0, 9, []int{2}, []int{1})
	x.sent(1, 3, 100, 9)
	x.sent(1, 4, 100, 9)
	x.wantAck(1, only(4, 4), 0, 9, []int{4}, nil)
	x.wantRtt(0, 0, 7, 5)
	x.wantTimer(9 + 7) // the space 0 would have been probed at 27
	x.sent(0, 2, 100, 10)
	x.wantFire(100, 1, []int{3}, false)
	x.wantTimer(10 + 27)
	x.wantFire(100, 0, nil, true)
	x.wantTimer(10 + 54)
}

// P11.6: losses are found by what d is by then: nothing may be lost, and the loss time is a later one.
func TestFireLosesNothing(t *testing.T) {
	x := newLife(t, 25)
	x.sent(0, 0, 100, 0)
	x.sent(1, 0, 100, 0)
	x.sent(0, 1, 100, 0)
	x.wantAck(0, only(1, 1), 0, 8, []int{1}, nil)
	x.wantTimer(9)
	x.wantAck(1, only(0, 0), 0, 100, []int{0}, nil)
	x.wantTimer(9)
	x.wantFire(100, 0, nil, false)
	x.wantTimer(112)
	x.wantFire(111, -1, nil, false)
	x.wantFire(112, 0, []int{0}, false)
	x.wantNoTimer()
}

// P11.6: by a shorter d more is lost than the loss time was told for.
func TestFireLosesAll(t *testing.T) {
	x := sampled(t, 25)
	x.sent(0, 1, 100, 100)
	x.sent(0, 2, 100, 110)
	x.quiet(0, 3, 120)
	x.wantAck(0, only(3, 3), 0, 121, []int{3}, nil)
	x.wantTimer(212)
	for n := range 20 {
		x.sent(1, n, 100, 150)
		x.wantAck(1, only(n, n), 0, 150, []int{n}, nil)
	}
	x.wantRtt(0, 0, 4, 9)
	x.wantTimer(212)
	x.wantFire(211, -1, nil, false)
	x.wantFire(212, 0, []int{1, 2}, false)
	x.wantNoTimer()
}

// P11.6: of several probes the least time, the first space of several.
func TestFireOfSeveralProbes(t *testing.T) {
	for _, c := range []struct {
		times []int // when a packet was sent in each space, or -1
		space int
		at    int
	}{
		{[]int{10, 10, 10}, 0, 1007},
		{[]int{11, 10, 10}, 1, 1007},
		{[]int{11, 10, 0}, 1, 1007},
		{[]int{36, 36, 10}, 2, 1032},
		{[]int{35, 35, 10}, 0, 1032},
		{[]int{36, 35, 10}, 1, 1032},
		{[]int{-1, 10, 10}, 1, 1007},
		{[]int{-1, 35, 10}, 1, 1032},
		{[]int{10, -1, 0}, 0, 1007},
		{[]int{-1, -1, 0}, 2, 1022},
	} {
		x := newLife(t, 25)
		for at := range 40 {
			for space, time := range c.times {
				if time == at {
					x.sent(space, 0, 100, at)
				}
			}
		}
		x.wantTimer(c.at)
		x.wantFire(c.at-1, -1, nil, false)
		x.wantFire(c.at, c.space, nil, true)
	}
}

// P11.6: a Fire that is refused has done nothing.
func TestRefusedFire(t *testing.T) {
	x := lossTimes(t, 150, -1, 140)
	for _, now := range []int{-1, 199, last + 1} {
		x.refuseFire(now)
	}
	x.wantTimer(252)
	x = newLife(t, 0)
	x.sent(0, 0, 100, 10)
	for _, now := range []int{-1, 9, last + 1} {
		x.refuseFire(now)
	}
	x.wantTimer(1007)
}

// P11.7: packets that are out go, rising, those that do not elicit too; with packets out, with none, twice.
func TestDrop(t *testing.T) {
	for space := range 3 {
		x := newLife(t, 25)
		for other := range 3 {
			x.sent(other, 3, 100, 30)
			x.quiet(other, 5, 30)
			x.sent(other, 7, 200, 30)
		}
		x.wantRoom(900, 12000)
		x.wantDrop(space, []int{3, 5, 7})
		x.wantRoom(600, 12000)
		x.wantDrop(space, nil)
		x.wantRoom(600, 12000)
		for other := range 3 {
			if other != space {
				x.wantAck(other, only(0, 7), 0, 130, []int{3, 5, 7}, nil)
			}
		}
		x.wantNoTimer()
		x.wantRoom(0, 12600)
		// numbers that were sent stay so, but nothing comes of them
		x.wantAck(space, only(3, 7), 0, 140, nil, nil)
		x.refuseAck(space, only(4, 4), 0, 140, api.ErrPacket)
		x.wantSent(space, 7, 100, true, 140, api.ErrPacket)
		x.sent(space, 8, 100, 140)
		x.wantAck(space, only(3, 8), 0, 150, []int{8}, nil)
		x.wantDrop(space, nil)
	}
}

// P11.7: neither a loss time is left, nor a packet that elicits; a later one brings a time of its own.
func TestDropEndsTimes(t *testing.T) {
	for space := range 3 {
		times := []int{-1, -1, -1}
		times[space] = 150
		x := lossTimes(t, times...)
		x.wantTimer(262)
		x.wantDrop(space, []int{1})
		x.wantNoTimer()
		x.wantFire(300, -1, nil, false)
		x.quiet(space, 3, 310)
		x.wantNoTimer()
		x.sent(space, 4, 100, 320)
		wait := 300
		if space == 2 {
			wait += 25
		}
		x.wantTimer(320 + wait)
		x.wantDrop(space, []int{3, 4})
		x.wantNoTimer()
	}
	x := lossTimes(t, 150, 140, 130)
	x.wantDrop(2, []int{1})
	x.wantTimer(252)
	x.wantDrop(0, []int{1})
	x.wantTimer(252)
	x.wantFire(252, 1, []int{1}, false)
	x.wantNoTimer()
}

// P11.7: what else is known stays: samples, window, recovery, probes.
func TestDropLeavesTheRest(t *testing.T) {
	x := halved(t) // it has dropped the space 2
	x.wantRtt(100, 100, 100, 50)
	x.sent(2, 10, 1000, 100)
	x.sent(1, 10, 1000, 100)
	x.wantFire(1000, 1, nil, true)
	x.wantDrop(1, []int{10})
	x.wantTimer(100 + 2*325)
	x.wantAck(2, only(10, 10), 0, 1000, []int{10}, nil)
	x.wantRoom(0, 6500) // 10 was sent at recovery
	x.wantRtt(900, 100, 200, 237)
}

// P11.8: what is under way, the window and the samples are told, and asking changes nothing.
func TestAsking(t *testing.T) {
	x := newLife(t, 25)
	for n := range 10 {
		x.sent(n%3, n, 1<<n, n)
	}
	for range 3 {
		x.wantRoom(1023, 12000)
		x.wantRtt(0, 0, 333, 166)
		x.wantTimer(9 + 997 - 2)
	}
}

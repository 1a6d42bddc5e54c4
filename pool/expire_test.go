package pool_test

import "testing"

// idlePool: a pool with links to one server that became idle at these times, in this order.
func idlePool(t *testing.T, idle int, times ...int) exam {
	t.Helper()
	x := made(t, 1, 16, 0, idle, 2, 50)
	for i := range times {
		x.acquire(7, 0, dial(i+1, 0))
	}
	for i, at := range times {
		x.idles(i+1, at)
	}
	return x
}

// P21.5: an idle link is told at the time when it has been idle for Idle ticks, or behind it, and not ahead.
func TestExpireOfOne(t *testing.T) {
	for _, idle := range []int{1, 2, 100, 1 << 20} {
		for _, since := range []int{0, 1, 500, last - 1<<20} {
			for _, late := range []int{0, 1, 1000} {
				x := idlePool(t, idle, since)
				x.timer(since + idle)
				if since > 0 {
					x.expire(since - 1)
				}
				x.expire(since)
				x.expire(since + idle - 1)
				x.count(0, 1, 1)
				x.timer(since + idle)
				if now := since + idle + late; now <= last {
					x.expire(now, 1)
					x.count(0, 0, 0)
					x.noTimer()
					x.expire(now)
					x.expire(last)
				}
			}
		}
	}
}

// P21.5: several are told at once by their numbers, rising, whatever the order in which they became idle; the others stay.
func TestExpireOfSeveral(t *testing.T) {
	times := []int{40, 10, 30, 10, 20, 50, 0, 30}
	want := []struct {
		now   int
		links []int
		rest  int
		timer int
	}{
		{99, nil, 8, 100},
		{100, []int{7}, 7, 110},
		{109, []int{7}, 7, 110},
		{110, []int{2, 4, 7}, 5, 120},
		{129, []int{2, 4, 5, 7}, 4, 130},
		{130, []int{2, 3, 4, 5, 7, 8}, 2, 140},
		{140, []int{1, 2, 3, 4, 5, 7, 8}, 1, 150},
		{150, []int{1, 2, 3, 4, 5, 6, 7, 8}, 0, 0},
		{last, []int{1, 2, 3, 4, 5, 6, 7, 8}, 0, 0},
	}
	for _, w := range want {
		for range 20 { // however they are gone through
			x := idlePool(t, 100, times...)
			x.timer(100)
			x.expire(w.now, w.links...)
			x.expire(w.now)
			x.count(0, w.rest, w.rest)
			if w.rest == 0 {
				x.noTimer()
			} else {
				x.timer(w.timer)
			}
		}
	}
	x := idlePool(t, 100, times...)
	x.expire(100, 7)
	x.expire(110, 2, 4)
	x.expire(130, 3, 5, 8)
	x.expire(150, 1, 6)
	x.noTimer()
}

// P21.5: links to all servers are told, also to those that are down.
func TestExpireOfAllServers(t *testing.T) {
	x := made(t, 3, 2, 0, 100, 1, 5000)
	for link := 1; link <= 6; link++ {
		x.acquire(7, 0, dial(link, (link-1)%3))
	}
	for _, link := range []int{6, 1, 2, 3} {
		x.idles(link, 0)
	}
	x.well(x.Failed(4, 0))
	x.well(x.Failed(5, 0))
	x.up(0, 100, false)
	x.up(1, 100, false)
	x.timer(100)
	x.expire(100, 1, 2, 3, 6)
	for b := range 3 {
		x.count(b, 0, 0)
	}
}

// P21.5: with now out of its bounds none is told, and none goes.
func TestExpireAtWrongTimes(t *testing.T) {
	x := idlePool(t, 1, 0, 5)
	for _, now := range wrongTimes() {
		x.expire(now)
		x.count(0, 2, 2)
		x.timer(1)
	}
	x.expire(0)
	x.expire(last, 1, 2)
	y := idlePool(t, 1, last-1)
	y.expire(last+1, nil...)
	y.timer(last)
	y.expire(last, 1)
}

// P21.5: links that are dialled or busy are never told, however long ago they came; one that was used again has been idle from its Release on alone.
func TestExpireOfLinksInUse(t *testing.T) {
	x := made(t, 1, 3, 0, 100, 2, 50)
	for link := 1; link <= 3; link++ {
		x.acquire(7, 0, dial(link, 0))
	}
	x.noTimer()
	x.expire(last)
	x.well(x.Opened(2))
	x.noTimer()
	x.expire(last)
	x.idles(3, 10)
	x.timer(110)
	x.acquire(7, 50, reuse(3, 0))
	x.noTimer()
	x.expire(110)
	x.expire(last)
	x.well(x.Release(3, true, 200))
	x.timer(300)
	x.expire(299)
	x.expire(300, 3)
	x.count(0, 2, 0)
}

// P21.5: Timer tells the least of the times; what became idle first need not have been dialled first.
func TestTimer(t *testing.T) {
	x := made(t, 2, 2, 0, 100, 2, 50)
	x.noTimer()
	for link := 1; link <= 4; link++ {
		x.acquire(7, 0, dial(link, (link-1)%2))
		x.noTimer()
	}
	x.idles(2, 30)
	x.timer(130)
	x.idles(1, 40)
	x.timer(130)
	x.idles(4, 40)
	x.timer(130)
	x.idles(3, 20) // a time ahead of the others
	x.timer(120)
	x.acquire(7, 50, reuse(3, 0)) // it became idle last
	x.timer(130)
	x.well(x.Lost(2))
	x.timer(140)
	x.acquire(7, 50, reuse(4, 1))
	x.timer(140)
	x.well(x.Lost(1))
	x.noTimer()
	x.well(x.Release(3, true, 0))
	x.timer(100)
	x.well(x.Release(4, true, 0))
	x.timer(100)
	x.expire(100, 3, 4)
	x.noTimer()
}

// P21.5: a link may become idle so late that its time is behind the last one; Timer tells it all the same.
func TestTimerBehindTheLastTime(t *testing.T) {
	x := idlePool(t, 100, last)
	x.timer(last + 100)
	x.expire(last)
	x.expire(last + 100)
	x.count(0, 1, 1)
	x.timer(last + 100)
	y := idlePool(t, 1<<20, last)
	y.timer(last + 1<<20)
}

// P21.6: Count tells what there is of each server, and nothing of others.
func TestCount(t *testing.T) {
	x := made(t, 3, 3, 1, 100, 1, 50)
	others := func() {
		x.Helper()
		for _, b := range []int{-1, -1 << 63, 3, 4, 16, 1<<63 - 1} {
			x.count(b, 0, 0)
		}
	}
	counts := func(want ...[2]int) {
		x.Helper()
		for b, w := range want {
			x.count(b, w[0], w[1])
		}
		others()
	}
	counts([2]int{}, [2]int{}, [2]int{})
	for link := 1; link <= 5; link++ {
		x.acquire(7, 0, dial(link, (link-1)%3))
	}
	counts([2]int{2, 0}, [2]int{2, 0}, [2]int{1, 0})
	x.well(x.Opened(1))
	counts([2]int{2, 0}, [2]int{2, 0}, [2]int{1, 0})
	x.well(x.Release(1, true, 0))
	x.idles(3, 0)
	counts([2]int{2, 1}, [2]int{2, 0}, [2]int{1, 1})
	x.idles(4, 10)
	counts([2]int{2, 2}, [2]int{2, 0}, [2]int{1, 1})
	x.well(x.Failed(2, 0)) // what is down has its links still
	counts([2]int{2, 2}, [2]int{1, 0}, [2]int{1, 1})
	x.idles(5, 0)
	counts([2]int{2, 2}, [2]int{1, 1}, [2]int{1, 1})
	x.acquire(7, 0, reuse(3, 2))
	counts([2]int{2, 2}, [2]int{1, 1}, [2]int{1, 0})
	x.well(x.Lost(1))
	counts([2]int{1, 1}, [2]int{1, 1}, [2]int{1, 0})
	x.well(x.Release(3, false, 0))
	counts([2]int{1, 1}, [2]int{1, 1}, [2]int{0, 0})
	x.expire(100, 5)
	counts([2]int{1, 1}, [2]int{0, 0}, [2]int{0, 0})
	x.expire(110, 4)
	counts([2]int{}, [2]int{}, [2]int{})
}

// P21.6: Up tells of each server that there is, and is false of others at all times.
func TestUp(t *testing.T) {
	x := made(t, 3, 1, 1, 100, 1, 50)
	times := []int{0, 1, 49, 50, 51, last - 1, last}
	others := func() {
		x.Helper()
		for _, b := range []int{-1, -2, -1 << 63, 3, 4, 16, 1<<63 - 1} {
			for _, now := range append(times, wrongTimes()...) {
				x.up(b, now, false)
			}
		}
	}
	for b := range 3 {
		for _, now := range times {
			x.up(b, now, true)
		}
	}
	others()
	for link := 1; link <= 3; link++ {
		x.acquire(7, 0, dial(link, link-1))
	}
	x.well(x.Failed(2, 1))
	for _, now := range times {
		x.up(0, now, true)
		x.up(1, now, now >= 51)
		x.up(2, now, true)
	}
	others()
	x.up(1, 0, false) // it was put down, and its time is not over at that time either
}

// P21.6: Up says of any number what its words say: a server that was not put down is up, one that was is so until its time is over.
func TestUpAtWrongTimes(t *testing.T) {
	x := made(t, 2, 1, 1, 100, 1, 50)
	x.acquire(7, 0, dial(1, 0))
	x.well(x.Failed(1, 0))
	x.up(0, -1, false)
	x.up(0, -1<<63, false)
	x.up(0, last+1, true)
	x.up(0, 1<<63-1, true)
	for _, now := range wrongTimes() {
		x.up(1, now, true)
	}
}

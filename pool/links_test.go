package pool_test

import (
	"math"
	"testing"

	"turnpike/api"
)

// wrongTimes are out of their bounds, rightTimes at their edges.
func wrongTimes() []int { return []int{-1, math.MinInt, last + 1, math.MaxInt} }
func rightTimes() []int { return []int{0, 1, last - 1, last} }

// noLinks: numbers that no link can have in a pool of six that were dialled.
func noLinks() []int { return []int{0, -1, -2, math.MinInt, 7, 8, math.MaxInt, 1 << 32, 1<<32 + 1} }

// several: links that are dialled (1), busy (2), idle (3) and gone in each way there is (4 to 6), to one server.
func several(t *testing.T) exam {
	x := made(t, 1, 6, 1, 100, 9, 50)
	for link := 1; link <= 6; link++ {
		x.acquire(7, 0, dial(link, 0))
		if link > 1 {
			x.well(x.Opened(link))
		}
	}
	x.well(x.Release(4, false, 0))
	x.well(x.Lost(5))
	x.well(x.Failed(6, 0))
	x.well(x.Release(3, true, 0))
	x.unchanged()
	return x
}

// unchanged: the links are as several has them.
func (x exam) unchanged() {
	x.Helper()
	x.count(0, 3, 1)
	x.timer(100)
	x.up(0, 0, true)
}

// P21.4: Opened is of a link that is being dialled, and of no other.
func TestOpened(t *testing.T) {
	x := several(t)
	for _, link := range append(noLinks(), 2, 3, 4, 5, 6) {
		x.want(x.Opened(link), api.ErrLink)
		x.unchanged()
	}
	x.want(x.Release(1, true, 0), api.ErrLink)
	x.well(x.Opened(1))
	x.want(x.Opened(1), api.ErrLink)
	x.unchanged() // busy as it was dialled: neither is idle
	x.well(x.Release(1, true, 0))
	x.want(x.Opened(1), api.ErrLink)
	x.acquire(7, 0, reuse(1, 0))
	x.want(x.Opened(1), api.ErrLink) // one that is granted again is busy
	x.well(x.Release(1, true, 0))
}

// P21.4: Failed is of a link that is dialled or busy; that it is none goes ahead of a wrong time, which changes nothing.
func TestFailed(t *testing.T) {
	for _, link := range []int{1, 2} {
		x := several(t)
		for _, no := range append(noLinks(), 3, 4, 5, 6) {
			for _, now := range append(wrongTimes(), rightTimes()...) {
				x.want(x.Failed(no, now), api.ErrLink)
			}
		}
		for _, now := range wrongTimes() {
			x.want(x.Failed(1, now), api.ErrClock)
			x.want(x.Failed(2, now), api.ErrClock)
		}
		x.unchanged()
		x.well(x.Failed(link, 0))
		x.want(x.Failed(link, 0), api.ErrLink)
		x.want(x.Opened(link), api.ErrLink)
		x.want(x.Release(link, true, 0), api.ErrLink)
		x.want(x.Lost(link), api.ErrLink)
		x.count(0, 2, 1)
		x.timer(100)
		x.expire(100, 3)
	}
	for _, now := range rightTimes() {
		x := several(t)
		x.well(x.Failed(1, now))
		x.well(x.Failed(2, now))
		x.count(0, 1, 1)
	}
}

// P21.4: Release is of a link that is busy; that it is none goes ahead of a wrong time, which changes nothing.
func TestRelease(t *testing.T) {
	for _, again := range []bool{true, false} {
		x := several(t)
		for _, no := range append(noLinks(), 1, 3, 4, 5, 6) {
			for _, now := range append(wrongTimes(), rightTimes()...) {
				x.want(x.Release(no, again, now), api.ErrLink)
			}
		}
		for _, now := range wrongTimes() {
			x.want(x.Release(2, again, now), api.ErrClock)
		}
		x.unchanged()
		x.well(x.Release(2, again, 30))
		x.want(x.Release(2, again, 30), api.ErrLink)
		x.want(x.Failed(2, 30), api.ErrLink)
		x.want(x.Opened(2), api.ErrLink)
		x.timer(100)
		if again {
			x.count(0, 3, 2)
			x.acquire(7, 30, reuse(2, 0))
			x.well(x.Release(2, true, 40))
			x.expire(139, 3)
			x.timer(140)
			x.expire(140, 2)
		} else {
			x.count(0, 2, 1)
			x.want(x.Lost(2), api.ErrLink)
			x.acquire(7, 30, reuse(3, 0))
			x.noTimer()
			x.acquire(7, 30, dial(7, 0))
		}
	}
	for _, now := range rightTimes() {
		x := several(t)
		x.well(x.Release(2, true, now))
		x.acquire(7, now, reuse(2, 0))
		x.well(x.Release(2, false, now))
	}
}

// P21.4: Lost is of any link that there is.
func TestLost(t *testing.T) {
	x := several(t)
	for _, no := range append(noLinks(), 4, 5, 6) {
		x.want(x.Lost(no), api.ErrLink)
	}
	x.unchanged()
	for i, link := range []int{1, 3, 2} { // dialled, idle, busy
		x.well(x.Lost(link))
		x.want(x.Lost(link), api.ErrLink)
		x.want(x.Opened(link), api.ErrLink)
		x.want(x.Failed(link, 0), api.ErrLink)
		x.want(x.Release(link, true, 0), api.ErrLink)
		if i == 0 {
			x.count(0, 2, 1)
			x.timer(100)
		} else {
			x.count(0, 2-i, 0)
			x.noTimer()
		}
	}
	x.expire(last)
	for i := range 6 { // each makes room for another one
		x.acquire(7, 0, dial(7+i, 0))
	}
	x.acquire(7, 0, wait)
}

// P21.4: Lost says nothing of a server: neither that it failed, nor that it did well.
func TestLostSaysNothing(t *testing.T) {
	x := made(t, 1, 1, 0, 100, 2, 50)
	link := 0
	next := func() int {
		x.Helper()
		link++
		x.acquire(7, 0, dial(link, 0))
		return link
	}
	for range 5 {
		x.well(x.Lost(next()))
		x.up(0, 0, true)
	}
	x.well(x.Failed(next(), 0)) // the first of two
	for _, how := range []func(){
		func() {},
		func() { x.well(x.Opened(link)) },
	} {
		next()
		how()
		x.well(x.Lost(link))
		x.up(0, 0, true)
	}
	x.well(x.Failed(next(), 0)) // the second one, with links that were lost between
	x.up(0, 0, false)
	x.up(0, 49, false)
	x.up(0, 50, true)
}

// P21.4: Lost of an idle link, Opened, Expire, refused calls and grants leave the row of failures as it is, too.
func TestWhatLeavesTheRow(t *testing.T) {
	x := made(t, 1, 2, 0, 100, 2, 50)
	x.acquire(7, 0, dial(1, 0))
	x.acquire(7, 0, dial(2, 0))
	x.idles(1, 0)
	x.well(x.Failed(2, 0)) // the first failure
	x.well(x.Lost(1))
	x.acquire(7, 0, dial(3, 0))
	x.acquire(7, 0, dial(4, 0))
	x.acquire(7, 0, full)
	x.well(x.Opened(3))
	x.want(x.Release(3, true, -1), api.ErrClock)
	x.want(x.Release(4, true, 0), api.ErrLink)
	x.want(x.Release(1, true, 0), api.ErrLink)
	x.want(x.Failed(3, -1), api.ErrClock)
	x.want(x.Failed(1, 0), api.ErrLink)
	x.up(0, 0, true)
	x.well(x.Failed(3, 0))
	x.up(0, 0, false)

	y := made(t, 1, 2, 0, 1, 2, 50)
	y.acquire(7, 0, dial(1, 0))
	y.acquire(7, 0, dial(2, 0))
	y.idles(1, 0)
	y.well(y.Failed(2, 0))
	y.expire(1, 1)
	y.acquire(7, 1, dial(3, 0))
	y.well(y.Failed(3, 1))
	y.up(0, 1, false)
}

// P21.4: so many failures in a row put a server down as Fails says.
func TestFailuresInARow(t *testing.T) {
	for _, fails := range []int{1, 2, 3, 99, 100} {
		x := made(t, 1, 1, 0, 100, fails, 50)
		link := 0
		fail := func(now int) {
			x.Helper()
			link++
			x.acquire(7, now, dial(link, 0))
			x.well(x.Failed(link, now))
		}
		for range fails - 1 {
			fail(0)
			x.up(0, 0, true)
		}
		fail(0)
		x.up(0, 0, false)
		x.acquire(7, 49, none)
		for range fails - 1 { // the row has begun anew
			fail(50)
			x.up(0, 50, true)
		}
		fail(60)
		x.up(0, 60, false)
		x.acquire(7, 109, none)
		fail(110)
	}
}

// P21.4: a Release between failures lets the row begin anew, whether the link may be used again or not.
func TestReleaseEndsTheRow(t *testing.T) {
	for _, again := range []bool{true, false} {
		x := made(t, 1, 3, 0, 100, 3, 50)
		link := 0
		next := func() int {
			x.Helper()
			link++
			x.acquire(7, 0, dial(link, 0))
			return link
		}
		well := next() // a link that does well while others fail
		x.well(x.Opened(well))
		for range 4 {
			x.well(x.Failed(next(), 0))
			x.well(x.Failed(next(), 0))
			x.up(0, 0, true)
			x.well(x.Release(well, again, 0))
			if again {
				x.acquire(7, 0, reuse(well, 0))
			} else {
				well = next()
				x.well(x.Opened(well))
			}
		}
		x.well(x.Failed(next(), 0))
		x.well(x.Failed(next(), 0))
		x.up(0, 0, true)
		x.well(x.Failed(next(), 0))
		x.up(0, 0, false)
	}
}

// P21.4: each server has a row of its own.
func TestRowsOfEachServer(t *testing.T) {
	x := made(t, 2, 3, 0, 100, 2, 50)
	for link := 1; link <= 6; link++ {
		x.acquire(7, 0, dial(link, (link-1)%2))
	}
	x.well(x.Failed(1, 0))
	x.well(x.Failed(2, 0))
	x.up(0, 0, true)
	x.up(1, 0, true)
	x.well(x.Opened(3))
	x.well(x.Release(3, true, 0)) // server 0 has done well
	x.well(x.Failed(5, 0))
	x.well(x.Failed(4, 0))
	x.up(0, 0, true)
	x.up(1, 0, false)
	x.acquire(7, 0, reuse(3, 0))
	x.well(x.Failed(3, 10))
	x.up(0, 10, false)
	x.up(0, 59, false)
	x.up(1, 49, false)
	x.up(1, 50, true)
	x.up(0, 60, true)
}

// P21.4: failures while a server is down count: it is put down anew, from then on; a Release lets it be down.
func TestFailuresWhileDown(t *testing.T) {
	x := made(t, 1, 6, 0, 100, 2, 50)
	for link := 1; link <= 6; link++ {
		x.acquire(7, 0, dial(link, 0))
	}
	x.well(x.Failed(1, 0))
	x.well(x.Failed(2, 0))
	x.up(0, 49, false)
	x.well(x.Failed(3, 30))
	x.up(0, 49, false)
	x.up(0, 50, true) // one more is not enough
	x.well(x.Failed(4, 40))
	x.up(0, 50, false)
	x.up(0, 89, false)
	x.up(0, 90, true)
	x.idles(5, 45)
	x.up(0, 89, false)
	x.up(0, 90, true)
	x.count(0, 2, 1)
	x.acquire(7, 89, none)
	x.acquire(7, 90, reuse(5, 0))
}

// P21.4: a server is down for just Down ticks, also at the edges of times.
func TestDownForJustDownTicks(t *testing.T) {
	for _, down := range []int{1, 2, 50, 1 << 20} {
		for _, now := range []int{0, 1, 1000, last - 1<<20 - 1, last - 1, last} {
			x := made(t, 1, 1, 0, 100, 1, down)
			x.up(0, now, true)
			x.acquire(7, now, dial(1, 0))
			x.well(x.Failed(1, now))
			x.up(0, now, false)
			x.up(0, now+down-1, false)
			x.up(0, now+down, true)
			if now+down <= last {
				x.acquire(7, now+down-1, none)
				x.acquire(7, now+down, dial(2, 0))
			} else {
				x.acquire(7, last, none)
			}
		}
	}
}

// P21.4: a link's number is never used again, in whatever way it went.
func TestNumbersOfLinks(t *testing.T) {
	x := made(t, 2, 1, 0, 1, 100, 50)
	for link := 1; link < 60; link += 2 {
		x.acquire(7, 0, dial(link, 0))
		x.acquire(7, 0, dial(link+1, 1))
		x.acquire(7, 0, full)
		for _, l := range []int{link, link + 1} {
			switch link % 5 {
			case 0:
				x.well(x.Lost(l))
			case 1:
				x.well(x.Failed(l, 0))
			case 2:
				x.well(x.Opened(l))
				x.well(x.Release(l, false, 0))
			case 3:
				x.idles(l, 0)
				x.expire(1, l)
			case 4:
				x.idles(l, 0)
				x.well(x.Lost(l))
			}
		}
		for gone := range link + 2 {
			x.want(x.Lost(gone), api.ErrLink)
			x.want(x.Opened(gone), api.ErrLink)
			x.want(x.Failed(gone, 0), api.ErrLink)
			x.want(x.Release(gone, true, 0), api.ErrLink)
		}
	}
}

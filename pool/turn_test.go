package pool_test

import "testing"

// P21.2: servers are gone through in turn, at first from 0.
func TestServersInTurn(t *testing.T) {
	for _, backends := range []int{1, 2, 3, 16} {
		x := made(t, backends, 3, 0, 100, 2, 50)
		for i := range 3 * backends {
			x.acquire(7, 0, dial(i+1, i%backends))
		}
		x.acquire(7, 0, full)
		for b := range backends {
			x.count(b, 3, 0)
		}
	}
}

// P21.2: the turn goes on from the one behind the last grant, wherever that was.
func TestTurnBehindTheLastGrant(t *testing.T) {
	for after := range 4 {
		x := made(t, 4, 1, 0, 100, 2, 50)
		for b := range 4 {
			x.acquire(7, 0, dial(b+1, b))
		}
		x.well(x.Lost(after + 1))
		x.acquire(7, 0, dial(5, after)) // the only one that has room
		for b := range 4 {
			if b != after {
				x.well(x.Lost(b + 1))
			}
		}
		x.well(x.Lost(5))
		for i := range 4 {
			x.acquire(7, 0, dial(6+i, (after+1+i)%4))
		}
	}
}

// P21.2: an idle link that is granted moves the turn as a new one does.
func TestReuseMovesTheTurn(t *testing.T) {
	x := made(t, 3, 1, 0, 100, 2, 50)
	for b := range 3 {
		x.acquire(7, 0, dial(b+1, b))
		x.well(x.Opened(b + 1))
	}
	for _, order := range [][]int{{1, 2, 3}, {3, 2, 1}, {2, 1, 3}} {
		for _, link := range order {
			x.well(x.Release(link, true, 0))
		}
		for link := 1; link <= 3; link++ {
			x.acquire(7, 0, reuse(link, link-1)) // in turn, whichever became idle last
		}
	}
	x.well(x.Release(2, true, 0))
	x.acquire(7, 0, reuse(2, 1))
	for link := 1; link <= 3; link++ {
		x.well(x.Release(link, true, 0))
	}
	x.acquire(7, 0, reuse(3, 2))
	x.acquire(7, 0, reuse(1, 0))
	x.acquire(7, 0, reuse(2, 1))
}

// P21.2: the first server that has an idle link or room for another is taken: a new link to the next one goes ahead of an idle link to one behind it.
func TestFirstServerInTurn(t *testing.T) {
	x := made(t, 3, 2, 0, 100, 2, 50)
	for b := range 3 {
		x.acquire(7, 0, dial(b+1, b))
	}
	x.idles(2, 0)
	x.idles(3, 0)
	x.acquire(7, 0, dial(4, 0))
	x.acquire(7, 0, reuse(2, 1))
	x.acquire(7, 0, reuse(3, 2))
	x.acquire(7, 0, dial(5, 1)) // server 0 is full
	x.well(x.Release(2, true, 0))
	x.acquire(7, 0, dial(6, 2))
	x.acquire(7, 0, reuse(2, 1)) // server 0 is full still
	x.acquire(7, 0, full)
	x.idles(4, 0)
	x.acquire(7, 0, reuse(4, 0))
}

// P21.2: of one server an idle link goes ahead of a new one, also where Links links are there.
func TestIdleAheadOfNew(t *testing.T) {
	x := made(t, 1, 3, 0, 100, 2, 50)
	x.acquire(7, 0, dial(1, 0))
	x.idles(1, 0)
	x.acquire(7, 0, reuse(1, 0))
	x.acquire(7, 0, dial(2, 0))
	x.idles(2, 0)
	x.acquire(7, 0, reuse(2, 0))
	x.acquire(7, 0, dial(3, 0))
	x.acquire(7, 0, full)
	x.idles(3, 0)
	x.acquire(7, 0, reuse(3, 0))
	x.acquire(7, 0, full)
}

// P21.2: of several idle links to a server that one is taken that became idle last, whatever its number is and when it was dialled.
func TestLastIdleLink(t *testing.T) {
	for _, order := range [][]int{{1, 2, 3, 4}, {4, 3, 2, 1}, {2, 4, 1, 3}, {3, 1, 4, 2}, {1, 4, 2, 3}} {
		for _, step := range []int{0, 1, 7, -7} { // at one time, at times that rise, and at some that fall: the last Release tells
			x := made(t, 1, 4, 0, 1000, 2, 50)
			for link := 1; link <= 4; link++ {
				x.acquire(7, 0, dial(link, 0))
				x.well(x.Opened(link))
			}
			for i, link := range order {
				x.well(x.Release(link, true, 100+i*step))
			}
			for i := 3; i >= 0; i-- {
				x.acquire(7, 200, reuse(order[i], 0))
			}
			x.acquire(7, 200, full)
		}
	}
}

// P21.2: a link that was idle, was busy, and is idle again, became idle last.
func TestIdleOnceMore(t *testing.T) {
	x := made(t, 1, 3, 0, 1000, 2, 50)
	for link := 1; link <= 3; link++ {
		x.acquire(7, 0, dial(link, 0))
		x.well(x.Opened(link))
		x.well(x.Release(link, true, 0))
		if link < 3 {
			x.acquire(7, 0, reuse(link, 0))
		}
	}
	// 3 is idle, 1 and 2 are busy
	x.well(x.Release(1, true, 0))
	x.well(x.Release(2, true, 0))
	x.acquire(7, 0, reuse(2, 0))
	x.acquire(7, 0, reuse(1, 0))
	x.well(x.Release(2, true, 0))
	x.acquire(7, 0, reuse(2, 0)) // ahead of 3, which has been idle for longer
	x.acquire(7, 0, reuse(3, 0))
	x.well(x.Release(1, true, 1))
	x.well(x.Release(3, true, 2))
	x.well(x.Release(2, true, 3))
	x.well(x.Lost(2))
	x.acquire(7, 3, reuse(3, 0)) // the last of those that are there
	x.acquire(7, 3, reuse(1, 0))
}

// P21.2: each server's idle links are its own.
func TestIdleLinksOfEachServer(t *testing.T) {
	x := made(t, 2, 2, 0, 1000, 2, 50)
	for link := 1; link <= 4; link++ {
		x.acquire(7, 0, dial(link, (link-1)%2))
		x.well(x.Opened(link))
	}
	for _, link := range []int{3, 2, 1, 4} {
		x.well(x.Release(link, true, 0))
	}
	x.acquire(7, 0, reuse(1, 0))
	x.acquire(7, 0, reuse(4, 1))
	x.acquire(7, 0, reuse(3, 0))
	x.acquire(7, 0, reuse(2, 1))
	x.acquire(7, 0, full)
}

// P21.2: up to Links links are dialled to a server and not one more, whatever they are doing.
func TestLinksToAServer(t *testing.T) {
	for _, links := range []int{1, 2, 15, 16} {
		x := made(t, 1, links, 0, 100, 2, 50)
		for i := range links {
			x.acquire(7, 0, dial(i+1, 0))
			if i%2 == 1 {
				x.well(x.Opened(i + 1))
			}
		}
		for range 3 {
			x.acquire(7, 0, full)
		}
		x.count(0, links, 0)
		x.well(x.Lost(1)) // one that is dialled
		x.acquire(7, 0, dial(links+1, 0))
		x.acquire(7, 0, full)
		x.idles(links+1, 0)
		x.acquire(7, 0, reuse(links+1, 0))
		x.acquire(7, 0, full)
		x.well(x.Release(links+1, false, 0))
		x.acquire(7, 0, dial(links+2, 0))
		x.acquire(7, 0, full)
	}
}

// P21.2: a server that is down is passed over, with idle links or without; so is one that is full.
func TestServersPassedOver(t *testing.T) {
	x := made(t, 4, 2, 0, 100, 1, 50)
	for link := 1; link <= 8; link++ {
		x.acquire(7, 0, dial(link, (link-1)%4))
	}
	x.idles(2, 0)
	x.well(x.Failed(6, 10)) // server 1 is down until 60, with an idle link
	x.well(x.Failed(3, 20)) // server 2 until 70
	x.well(x.Lost(7))       // with no link
	x.well(x.Lost(4))       // server 3 has one
	x.count(1, 1, 1)
	x.count(2, 0, 0)
	x.acquire(7, 20, dial(9, 3)) // behind 0, which is full, 1 and 2
	x.acquire(7, 20, full)
	x.acquire(7, 59, full)
	x.acquire(7, 60, reuse(2, 1))
	x.acquire(7, 69, dial(10, 1)) // server 2 is down, 3 and 0 are full
	x.acquire(7, 69, full)
	x.acquire(7, 70, dial(11, 2))
	x.acquire(7, 70, dial(12, 2)) // 3, 0 and 1 are full
	x.acquire(7, 70, full)
}

// P21.2: Wait, Full and None don't move the turn, nor does what becomes of links.
func TestWhatDoesNotMoveTheTurn(t *testing.T) {
	start := func() exam { // the turn is at server 1, and all are full
		x := made(t, 3, 1, 1, 100, 1, 50)
		for link := 1; link <= 3; link++ {
			x.acquire(7, 0, dial(link, link-1))
			x.well(x.Opened(link))
		}
		x.well(x.Release(1, true, 0))
		x.acquire(7, 0, reuse(1, 0))
		return x
	}
	behind := func(x exam, now int) { // servers 1, 2, 0
		x.Helper()
		for link := 1; link <= 3; link++ {
			x.Lost(link)
		}
		x.acquire(7, now, dial(4, 1))
		x.acquire(7, now, dial(5, 2))
		x.acquire(7, now, dial(6, 0))
	}
	x := start()
	behind(x, 0)

	x = start()
	x.acquire(8, 0, wait)
	x.acquire(9, 0, full)
	x.serveNobody(0)
	x.well(x.Cancel(8))
	behind(x, 0)

	x = start()
	x.acquire(8, 0, wait)
	for link := 1; link <= 3; link++ {
		x.well(x.Failed(link, 0))
	}
	x.acquire(9, 0, none)
	x.serve(0, 8, none)
	x.acquire(9, 49, none)
	behind(x, 50)

	x = start()
	x.well(x.Release(3, true, 0))
	x.well(x.Release(2, true, 0))
	x.expire(100, 2, 3)
	x.well(x.Lost(1))
	behind(x, 100)
}

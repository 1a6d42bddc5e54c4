package pool_test

import (
	"testing"

	"turnpike/api"
)

// P21.2: where nothing is to be had, so many tickets wait as Queue says, and not one more.
func TestQueue(t *testing.T) {
	for _, queue := range []int{0, 1, 2, 255, 256} {
		x := made(t, 1, 1, queue, 100, 2, 50)
		x.acquire(-1, 0, dial(1, 0))
		for i := range queue {
			x.acquire(i, 0, wait)
		}
		for range 3 {
			x.acquire(-2, 0, full)
		}
		if queue == 0 {
			continue
		}
		x.well(x.Cancel(queue / 2))
		x.acquire(-2, 0, wait)
		x.acquire(-3, 0, full)
		x.idles(1, 0)
		x.acquire(-3, 0, full) // a link is idle, and yet
		first := 0
		if queue/2 == 0 {
			first = -2
			if queue > 1 {
				first = 1
			}
		}
		x.serve(0, first, reuse(1, 0))
		x.acquire(-3, 0, wait)
		x.acquire(-4, 0, full)
	}
}

// P21.2, P21.3: with Queue 0 nobody ever waits.
func TestQueueOfNone(t *testing.T) {
	x := made(t, 1, 1, 0, 100, 1, 50)
	x.serveNobody(0)
	x.acquire(7, 0, dial(1, 0))
	x.acquire(8, 0, full)
	x.want(x.Cancel(8), api.ErrTicket)
	x.serveNobody(0)
	x.idles(1, 0)
	x.serveNobody(0)
	x.acquire(8, 0, reuse(1, 0))
	x.well(x.Failed(1, 0))
	x.acquire(8, 0, none)
	x.serveNobody(0)
	x.want(x.Cancel(8), api.ErrTicket)
	x.acquire(8, 50, dial(2, 0))
}

// P21.2: nobody is taken ahead of those who wait: Wait or Full is told although a link is idle, or could be dialled.
func TestNobodyAheadOfThoseWhoWait(t *testing.T) {
	x := made(t, 2, 1, 2, 100, 2, 50)
	x.acquire(1, 0, dial(1, 0))
	x.acquire(2, 0, dial(2, 1))
	x.acquire(3, 0, wait)
	x.idles(1, 0)
	x.well(x.Lost(2))
	x.acquire(4, 0, wait)
	x.acquire(5, 0, full)
	x.count(0, 1, 1)
	x.count(1, 0, 0)
	x.serve(0, 3, reuse(1, 0))
	x.acquire(5, 0, wait) // server 1 has room, but 4 waits
	x.acquire(6, 0, full)
	x.serve(0, 4, dial(3, 1))
	x.serveNobody(0)
	x.well(x.Release(1, true, 0))
	x.acquire(6, 0, wait)
	x.well(x.Cancel(5))
	x.well(x.Cancel(6))
	x.acquire(6, 0, reuse(1, 0)) // nobody waits any more
}

// P21.2: None with all servers down, whether links are idle, tickets wait, or the queue is full; nobody waits then.
func TestAllServersDown(t *testing.T) {
	x := made(t, 2, 2, 1, 100, 1, 50)
	for link := 1; link <= 4; link++ {
		x.acquire(7, 0, dial(link, (link-1)%2))
	}
	x.well(x.Failed(1, 10))
	x.acquire(7, 10, wait)
	x.well(x.Cancel(7))
	x.well(x.Failed(2, 20))
	x.acquire(7, 20, none)
	x.want(x.Cancel(7), api.ErrTicket)
	x.idles(3, 20)
	x.acquire(7, 20, none)
	x.acquire(7, 59, none)
	x.acquire(7, 60, reuse(3, 0)) // the turn is at server 0, which is up again
	x.acquire(7, 60, dial(5, 0))
	x.acquire(8, 60, wait)
	x.acquire(9, 60, full)
	x.acquire(9, 30, none) // at that time both are down, and a ticket waits: neither Wait nor Full
	x.want(x.Cancel(9), api.ErrTicket)
	x.well(x.Cancel(8))
	x.acquire(9, 60, wait)
}

// P21.2: with one server up, though it has nothing to give, it is Wait or Full.
func TestOneServerUp(t *testing.T) {
	x := made(t, 2, 1, 1, 100, 1, 50)
	x.acquire(1, 0, dial(1, 0))
	x.acquire(2, 0, dial(2, 1))
	x.well(x.Failed(1, 0))
	x.acquire(3, 0, wait)
	x.acquire(4, 0, full)
	x.serveNobody(0)
	x.serveNobody(49)
	x.serve(50, 3, dial(3, 0))
}

// P21.3: nobody is served where nobody waits, whatever there is.
func TestServeWithNobodyWaiting(t *testing.T) {
	x := made(t, 1, 1, 1, 100, 1, 50)
	x.serveNobody(0)
	x.acquire(7, 0, dial(1, 0))
	x.serveNobody(0)
	x.idles(1, 0)
	x.serveNobody(0)
	x.count(0, 1, 1)
	x.acquire(7, 0, reuse(1, 0))
	x.acquire(8, 0, wait)
	x.well(x.Cancel(8))
	x.well(x.Failed(1, 0))
	for _, now := range []int{0, 49, 50, 100, last, -1, last + 1} {
		x.serveNobody(now)
	}
	x.count(0, 0, 0)
	x.acquire(8, 50, dial(2, 0))
}

// P21.3: nobody is served where nothing is to be had; the ticket waits on.
func TestServeWithNothingToBeHad(t *testing.T) {
	x := made(t, 2, 1, 2, 100, 1, 50)
	x.acquire(1, 0, dial(1, 0))
	x.acquire(2, 0, dial(2, 1))
	x.acquire(3, 0, wait)
	x.acquire(4, 0, wait)
	for now := range 5 {
		x.serveNobody(now)
	}
	x.refuse(3, 0, api.ErrTicket)
	x.refuse(4, 0, api.ErrTicket)
	x.well(x.Opened(1)) // busy is not idle
	x.serveNobody(5)
	x.well(x.Release(1, true, 5))
	x.serve(5, 3, reuse(1, 0))
	x.serveNobody(5)
	x.well(x.Failed(2, 6)) // down until 56, with room for a link
	x.serveNobody(6)
	x.serveNobody(55)
	x.serve(56, 4, dial(3, 1))
}

// P21.3: with all servers down the one who waits longest is told None, then the next one; and they wait no more.
func TestServeWithAllDown(t *testing.T) {
	x := made(t, 1, 1, 3, 100, 1, 50)
	x.acquire(1, 0, dial(1, 0))
	for ticket := 2; ticket <= 4; ticket++ {
		x.acquire(ticket, 0, wait)
	}
	x.well(x.Failed(1, 0))
	x.serve(0, 2, none)
	x.want(x.Cancel(2), api.ErrTicket)
	x.acquire(2, 0, none)
	x.serve(49, 3, none)
	x.acquire(3, 50, wait)
	x.serve(50, 4, dial(2, 0))
	x.serveNobody(50)
	x.well(x.Failed(2, 60))
	x.serve(60, 3, none)
	x.serveNobody(60)
}

// P21.3: at times out of their bounds nobody is served, whether a link is to be had or all are down, and nothing changes.
func TestServeAtWrongTimes(t *testing.T) {
	wrong := []int{-1, -1 << 63, last + 1, 1<<63 - 1}
	nobody := func(x exam) {
		x.Helper()
		for _, now := range wrong {
			x.serveNobody(now)
		}
	}
	for _, now := range []int{0, 1, last - 1, last} {
		x := made(t, 2, 1, 2, 100, 1, 50)
		x.acquire(1, 0, dial(1, 0))
		x.acquire(2, 0, dial(2, 1))
		x.acquire(3, 0, wait)
		nobody(x)
		x.idles(1, 0)
		nobody(x)
		x.count(0, 1, 1)
		x.serve(now, 3, reuse(1, 0))
		x.acquire(4, 0, wait)
		x.well(x.Failed(1, now))
		x.well(x.Failed(2, now))
		nobody(x)
		x.refuse(4, 0, api.ErrTicket)
		x.serve(now, 4, none)
		nobody(x)
	}
}

// P21.3: tickets are served in the order in which they came to wait, and the servers by their turn.
func TestOrderOfServing(t *testing.T) {
	x := made(t, 3, 1, 9, 100, 2, 50)
	for link := 1; link <= 3; link++ {
		x.acquire(0, 0, dial(link, link-1))
		x.well(x.Opened(link))
	}
	for _, ticket := range []int{5, 2, 9, -4, 7} {
		x.acquire(ticket, 0, wait)
	}
	x.well(x.Release(3, true, 0))
	x.well(x.Release(2, true, 0))
	x.serve(0, 5, reuse(2, 1)) // the turn is at server 0, which has nothing
	x.acquire(5, 0, wait)      // behind all others
	x.serve(0, 2, reuse(3, 2))
	x.serveNobody(0)
	for link := 1; link <= 3; link++ {
		x.well(x.Release(link, false, 0))
	}
	x.serve(0, 9, dial(4, 0))
	x.serve(0, -4, dial(5, 1))
	x.serve(0, 7, dial(6, 2))
	x.serveNobody(0)
	x.idles(4, 0)
	x.serve(0, 5, reuse(4, 0))
	x.acquire(8, 0, wait)
	x.well(x.Release(4, true, 0))
	x.idles(5, 0)
	x.serve(0, 8, reuse(5, 1)) // what Serve grants moves the turn
	x.acquire(8, 0, reuse(4, 0))
}

// P21.4: a ticket at the head, amid, or at the end of those who wait waits no more; the others keep their order.
func TestCancel(t *testing.T) {
	tickets := []int{11, 12, 13, 14, 15}
	for _, out := range tickets {
		x := made(t, 1, 1, 5, 100, 2, 50)
		x.acquire(1, 0, dial(1, 0))
		for _, ticket := range tickets {
			x.acquire(ticket, 0, wait)
		}
		x.acquire(16, 0, full)
		x.well(x.Cancel(out))
		x.want(x.Cancel(out), api.ErrTicket)
		x.acquire(16, 0, wait) // there is room again
		x.acquire(out, 0, full)
		x.well(x.Opened(1))
		for _, ticket := range []int{11, 12, 13, 14, 15, 16} {
			if ticket != out {
				x.well(x.Release(1, true, 0))
				x.serve(0, ticket, reuse(1, 0))
			}
		}
		x.serveNobody(0)
		x.acquire(out, 0, wait)
		x.well(x.Cancel(out))
	}
}

// P21.4: who does not wait can't be cancelled: neither one that never came, nor one that got a link, Full or None, nor one that was served.
func TestCancelOfOthers(t *testing.T) {
	x := made(t, 1, 1, 1, 100, 1, 50)
	for _, ticket := range []int{0, 1, -1, 1<<63 - 1, -1 << 63} {
		x.want(x.Cancel(ticket), api.ErrTicket)
	}
	x.acquire(1, 0, dial(1, 0))
	x.want(x.Cancel(1), api.ErrTicket)
	x.acquire(2, 0, wait)
	x.acquire(3, 0, full)
	x.want(x.Cancel(3), api.ErrTicket)
	x.want(x.Cancel(0), api.ErrTicket)
	x.refuse(2, 0, api.ErrTicket)
	x.idles(1, 0)
	x.serve(0, 2, reuse(1, 0))
	x.want(x.Cancel(2), api.ErrTicket)
	x.well(x.Failed(1, 0))
	x.acquire(4, 0, none)
	x.want(x.Cancel(4), api.ErrTicket)
	x.acquire(1, 50, dial(2, 0))
	x.acquire(4, 50, wait)
	x.well(x.Failed(2, 50))
	x.serve(50, 4, none)
	x.want(x.Cancel(4), api.ErrTicket)
}

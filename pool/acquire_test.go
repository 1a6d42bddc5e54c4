package pool_test

import (
	"math"
	"testing"

	"turnpike/api"
)

// The chapter's example.
func TestExample(t *testing.T) {
	x := made(t, 2, 1, 1, 100, 2, 50)
	x.acquire(7, 0, dial(1, 0))
	x.acquire(8, 0, dial(2, 1))
	x.acquire(9, 0, wait)
	x.acquire(10, 0, full)
	x.well(x.Opened(1))
	x.well(x.Release(1, true, 5))
	x.serve(5, 9, reuse(1, 0))
	x.well(x.Failed(2, 6))
	x.acquire(8, 6, dial(3, 1))
	x.well(x.Failed(3, 7))
	x.up(1, 7, false)
	x.up(1, 56, false)
	x.up(1, 57, true)
}

// P21.2: a ticket that waits is refused whatever the time is; a wrong time is so ahead of all that could be granted.
func TestRefusedTickets(t *testing.T) {
	wrong := []int{-1, math.MinInt, last + 1, math.MaxInt}
	right := []int{0, 1, 5, last - 1, last}
	x := made(t, 1, 1, 2, 100, 1, 50)
	for _, now := range wrong {
		x.refuse(7, now, api.ErrClock) // a link could be dialled
	}
	x.count(0, 0, 0)
	x.acquire(7, 0, dial(1, 0))
	x.acquire(8, 0, wait)
	for _, now := range wrong {
		x.refuse(8, now, api.ErrTicket)
		x.refuse(7, now, api.ErrClock) // it got a link and waits no more
		x.refuse(9, now, api.ErrClock)
	}
	for _, now := range right {
		x.refuse(8, now, api.ErrTicket)
	}
	x.acquire(9, 0, wait)
	for _, now := range append(wrong, right...) {
		x.refuse(8, now, api.ErrTicket)
		x.refuse(9, now, api.ErrTicket)
	}
	for _, now := range wrong {
		x.refuse(10, now, api.ErrClock) // the queue is full
	}
	x.acquire(10, 0, full)
	x.refuse(8, 0, api.ErrTicket)
	x.acquire(10, 0, full) // who got Full does not wait
	x.idles(1, 3)
	for _, now := range wrong {
		x.refuse(8, now, api.ErrTicket)
		x.refuse(11, now, api.ErrClock)
	}
	x.serve(3, 8, reuse(1, 0))
	for _, now := range wrong {
		x.refuse(8, now, api.ErrClock)
	}
	x.well(x.Failed(1, 5))
	for _, now := range wrong {
		x.refuse(9, now, api.ErrTicket) // all are down
		x.refuse(11, now, api.ErrClock)
	}
	for _, now := range right[:3] {
		x.refuse(9, now, api.ErrTicket)
		x.acquire(11, now, none)
	}
}

// P21.2: what is refused changes nothing: neither the turn, nor who waits, nor the links' numbers.
func TestRefusedTicketsChangeNothing(t *testing.T) {
	x := made(t, 3, 1, 2, 100, 1, 50)
	x.acquire(1, 0, dial(1, 0))
	for range 5 {
		x.refuse(2, -1, api.ErrClock)
		x.refuse(2, last+1, api.ErrClock)
	}
	x.acquire(2, 0, dial(2, 1))
	x.acquire(3, 0, dial(3, 2))
	x.acquire(4, 0, wait)
	for range 5 {
		x.refuse(4, 0, api.ErrTicket)
		x.refuse(5, -1, api.ErrClock)
	}
	x.acquire(5, 0, wait)
	x.idles(1, 0)
	x.refuse(4, 0, api.ErrTicket)
	x.serve(0, 4, reuse(1, 0))
	x.well(x.Lost(2))
	x.serve(0, 5, dial(4, 1))
	x.serveNobody(0)
}

// P21.2: times are from 0 to 2^40, for each kind of grant.
func TestEdgesOfTimes(t *testing.T) {
	for _, now := range []int{0, 1, last - 1, last} {
		x := made(t, 1, 1, 1, 1, 1, 1)
		x.acquire(7, now, dial(1, 0))
		x.idles(1, now)
		x.acquire(7, now, reuse(1, 0))
		x.acquire(8, now, wait)
		x.acquire(9, now, full)
		x.well(x.Failed(1, now))
		x.acquire(9, now, none)
	}
}

// P21.2: a ticket is any number, and one that does not wait may get several links.
func TestTicketsAreAnyNumbers(t *testing.T) {
	tickets := []int{0, -1, math.MinInt, math.MaxInt, 1 << 40, 1}
	x := made(t, 1, 1, 6, 100, 2, 50)
	x.acquire(0, 0, dial(1, 0))
	for _, ticket := range tickets {
		x.acquire(ticket, 0, wait)
		x.refuse(ticket, 0, api.ErrTicket)
	}
	x.well(x.Opened(1))
	for _, ticket := range tickets {
		x.well(x.Release(1, true, 0))
		x.serve(0, ticket, reuse(1, 0))
		x.want(x.Cancel(ticket), api.ErrTicket)
	}
	x.well(x.Lost(1))
	for i, ticket := range []int{0, 0, -1, -1, math.MinInt, math.MinInt} { // again and again
		x.acquire(ticket, 0, dial(i+2, 0))
		x.well(x.Lost(i + 2))
	}
}

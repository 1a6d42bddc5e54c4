package pool_test

import (
	"slices"
	"testing"

	"turnpike/api"
	"turnpike/pool"
)

// The last time there is.
const last = 1 << 40

// The grants.
var (
	none = pool.Grant{Kind: 0}
	wait = pool.Grant{Kind: 3}
	full = pool.Grant{Kind: 4}
)

func dial(link, backend int) pool.Grant  { return pool.Grant{Kind: 1, Link: link, Backend: backend} }
func reuse(link, backend int) pool.Grant { return pool.Grant{Kind: 2, Link: link, Backend: backend} }

// exam holds the answers of a pool to what is wanted of it.
type exam struct {
	*testing.T
	*pool.Pool
}

// made: a pool that is made with OK.
func made(t *testing.T, backends, links, queue, idle, fails, down int) exam {
	t.Helper()
	p, e := pool.New(pool.Config{Backends: backends, Links: links, Queue: queue, Idle: idle, Fails: fails, Down: down})
	if p == nil || e != api.OK {
		t.Fatalf("New: %v, %d", p, e)
	}
	return exam{t, p}
}

// acquire: the ticket gets that grant.
func (x exam) acquire(ticket, now int, want pool.Grant) {
	x.Helper()
	if g, e := x.Acquire(ticket, now); g != want || e != api.OK {
		x.Fatalf("Acquire(%d, %d): %v, %d, want %v", ticket, now, g, e, want)
	}
}

// refuse: the ticket gets that error.
func (x exam) refuse(ticket, now int, want api.Errno) {
	x.Helper()
	if g, e := x.Acquire(ticket, now); g != (pool.Grant{}) || e != want {
		x.Fatalf("Acquire(%d, %d): %v, %d, want error %d", ticket, now, g, e, want)
	}
}

// serve: that ticket gets that grant.
func (x exam) serve(now, ticket int, want pool.Grant) {
	x.Helper()
	if k, g, ok := x.Serve(now); k != ticket || g != want || !ok {
		x.Fatalf("Serve(%d): %d, %v, %t, want %d, %v", now, k, g, ok, ticket, want)
	}
}

// serveNobody: nobody is served.
func (x exam) serveNobody(now int) {
	x.Helper()
	if k, g, ok := x.Serve(now); k != 0 || g != (pool.Grant{}) || ok {
		x.Fatalf("Serve(%d): %d, %v, %t, want nobody", now, k, g, ok)
	}
}

// want: what a call answers.
func (x exam) want(e, want api.Errno) {
	x.Helper()
	if e != want {
		x.Fatalf("error %d, want %d", e, want)
	}
}

// well: a call is not refused.
func (x exam) well(e api.Errno) { x.Helper(); x.want(e, api.OK) }

// idles: a link that is dialled stands, and becomes idle.
func (x exam) idles(link, now int) {
	x.Helper()
	x.well(x.Opened(link))
	x.well(x.Release(link, true, now))
}

// count: the server has so many links.
func (x exam) count(backend, links, idle int) {
	x.Helper()
	if n, k := x.Count(backend); n != links || k != idle {
		x.Fatalf("Count(%d): %d, %d, want %d, %d", backend, n, k, links, idle)
	}
}

// up: whether the server is up.
func (x exam) up(backend, now int, want bool) {
	x.Helper()
	if got := x.Up(backend, now); got != want {
		x.Fatalf("Up(%d, %d): %t", backend, now, got)
	}
}

// timer: that is the time.
func (x exam) timer(want int) {
	x.Helper()
	if at, ok := x.Timer(); at != want || !ok {
		x.Fatalf("Timer: %d, %t, want %d", at, ok, want)
	}
}

// noTimer: there is no time.
func (x exam) noTimer() {
	x.Helper()
	if at, ok := x.Timer(); at != 0 || ok {
		x.Fatalf("Timer: %d, %t, want none", at, ok)
	}
}

// expire: those links are told.
func (x exam) expire(now int, want ...int) {
	x.Helper()
	if got := x.Expire(now); !slices.Equal(got, want) {
		x.Fatalf("Expire(%d): %v, want %v", now, got, want)
	}
}

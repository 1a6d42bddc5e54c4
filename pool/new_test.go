package pool_test

import (
	"math"
	"testing"

	"turnpike/api"
	"turnpike/pool"
)

// edges: a field of a config, the least and the greatest that it may be.
type edges struct {
	name      string
	low, high int
	field     func(*pool.Config) *int
}

// all of them, by P21.1.
func all() []edges {
	return []edges{
		{"Backends", 1, 16, func(c *pool.Config) *int { return &c.Backends }},
		{"Links", 1, 16, func(c *pool.Config) *int { return &c.Links }},
		{"Queue", 0, 256, func(c *pool.Config) *int { return &c.Queue }},
		{"Idle", 1, 1048576, func(c *pool.Config) *int { return &c.Idle }},
		{"Fails", 1, 100, func(c *pool.Config) *int { return &c.Fails }},
		{"Down", 1, 1048576, func(c *pool.Config) *int { return &c.Down }},
	}
}

// right: a config that is not refused.
func right() pool.Config {
	return pool.Config{Backends: 2, Links: 1, Queue: 1, Idle: 100, Fails: 2, Down: 50}
}

// wantMade, wantRefused: what New says of a config.
func wantMade(t *testing.T, c pool.Config) {
	t.Helper()
	if p, e := pool.New(c); p == nil || e != api.OK {
		t.Errorf("New(%v): %v, %d", c, p, e)
	}
}

func wantRefused(t *testing.T, c pool.Config) {
	t.Helper()
	if p, e := pool.New(c); p != nil || e != api.ErrRange {
		t.Errorf("New(%v): %v, %d", c, p, e)
	}
}

// P21.1: each field has its bounds, whatever the others are.
func TestBoundsOfAConfig(t *testing.T) {
	wantMade(t, right())
	for _, f := range all() {
		for _, n := range []int{f.low, f.low + 1, (f.low + f.high) / 2, f.high - 1, f.high} {
			c := right()
			*f.field(&c) = n
			wantMade(t, c)
		}
		for _, n := range []int{f.low - 1, f.low - 2, -1, -f.high, math.MinInt, f.high + 1, f.high + 2, 2 * f.high, math.MaxInt} {
			c := right()
			*f.field(&c) = n
			wantRefused(t, c)
		}
	}
}

// P21.1: all fields at their edges together are right; one that is wrong among them is not.
func TestEdgesTogether(t *testing.T) {
	for bits := range 1 << 6 {
		var c pool.Config
		for i, f := range all() {
			*f.field(&c) = f.low
			if bits>>i&1 == 1 {
				*f.field(&c) = f.high
			}
		}
		wantMade(t, c)
		for _, f := range all() {
			low, high := c, c
			*f.field(&low) = f.low - 1
			*f.field(&high) = f.high + 1
			wantRefused(t, low)
			wantRefused(t, high)
		}
	}
	wantRefused(t, pool.Config{})
}

// P21.1: the numbers of the grants are those of the chapter.
func TestKindsOfGrants(t *testing.T) {
	if pool.None != 0 || pool.Dial != 1 || pool.Reuse != 2 || pool.Wait != 3 || pool.Full != 4 {
		t.Errorf("%d, %d, %d, %d, %d", pool.None, pool.Dial, pool.Reuse, pool.Wait, pool.Full)
	}
}

// P21.1, P21.2, P21.3: a pool keeps to its config, also at the greatest of all bounds.
func TestGreatestPool(t *testing.T) {
	x := made(t, 16, 16, 256, 1<<20, 100, 1<<20)
	for i := range 256 {
		x.acquire(i, 0, dial(i+1, i%16))
	}
	for i := range 256 {
		x.acquire(1000+i, 0, wait)
	}
	x.acquire(2000, 0, full)
	for i := range 256 {
		x.idles(i+1, last-1<<20)
	}
	for i := range 256 {
		x.serve(last, 1000+i, reuse(241+i%16-i/16*16, i%16)) // the servers in turn, each one's last link ahead
	}
	x.serveNobody(last)
}

// P21.4, P21.5: the same of failures and of ticks.
func TestGreatestFailsIdleAndDown(t *testing.T) {
	x := made(t, 1, 2, 0, 1<<20, 100, 1<<20)
	x.acquire(7, 0, dial(1, 0))
	x.idles(1, 9)
	x.timer(9 + 1<<20)
	x.expire(8 + 1<<20)
	x.expire(9+1<<20, 1)
	for i := range 100 {
		x.acquire(7, 10, dial(i+2, 0))
		x.up(0, 10, true)
		x.well(x.Failed(i+2, 10))
	}
	x.up(0, 9+1<<20, false)
	x.acquire(7, 9+1<<20, none)
	x.up(0, 10+1<<20, true)
	x.acquire(7, 10+1<<20, dial(102, 0))
}

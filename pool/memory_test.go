package pool_test

import (
	"slices"
	"testing"

	"turnpike/pool"
)

// spoil writes over numbers and their spare room.
func spoil(list []int) {
	list = list[:cap(list)]
	for i := range list {
		list[i] = 0x5555
	}
}

// P21.5: what Expire told may be written over, and stays as it is whatever is told later.
func TestMemoryOfExpire(t *testing.T) {
	x := idlePool(t, 100, 40, 10, 30, 10, 20, 50, 0, 30)
	var told, was [][]int
	for _, now := range []int{100, 110, 120, 130, 150} {
		links := x.Expire(now)
		told, was = append(told, links), append(was, slices.Clone(links))
	}
	if want := [][]int{{7}, {2, 4}, {5}, {3, 8}, {1, 6}}; !slices.EqualFunc(was, want, slices.Equal) {
		t.Fatalf("Expire: %v, want %v", was, want)
	}
	for i := range told {
		spoil(told[i])
		for j := i + 1; j < len(told); j++ {
			if !slices.Equal(told[j], was[j]) {
				t.Errorf("%v became %v", was[j], told[j])
			}
		}
	}
}

// P21.5: nothing hangs on what was done with what Expire told, also where it told none.
func TestExpireToldAndSpoiled(t *testing.T) {
	x := idlePool(t, 100, 40, 10, 30, 10, 20, 50, 0, 30)
	for now := range 151 {
		spoil(x.Expire(now))
		spoil(x.Expire(now))
		left := 0
		for _, since := range []int{40, 10, 30, 10, 20, 50, 0, 30} {
			if now < since+100 {
				left++
			}
		}
		x.count(0, left, left)
	}
	x.noTimer()
	x.acquire(7, 150, dial(9, 0))
}

// P21.1: a config belongs to who made it; pools share nothing.
func TestConfigIsNotKept(t *testing.T) {
	c := right()
	p, _ := pool.New(c)
	q, _ := pool.New(c)
	c = pool.Config{Backends: 9, Links: 9, Queue: 9, Idle: 9, Fails: 9, Down: 9}
	x, y := exam{t, p}, exam{t, q}
	x.acquire(1, 0, dial(1, 0))
	x.acquire(2, 0, dial(2, 1))
	x.acquire(3, 0, wait)
	x.acquire(4, 0, full)
	x.idles(1, 0)
	x.well(x.Failed(2, 0))
	y.count(0, 0, 0)
	y.noTimer()
	y.serveNobody(0)
	y.acquire(3, 0, dial(1, 0))
	y.acquire(3, 0, dial(2, 1))
	y.well(y.Failed(2, 0))
	y.up(1, 0, true)
	x.timer(100)
	if _, e := pool.New(c); e != 0 {
		t.Errorf("New: %d", e)
	}
}

// P21.2: what was granted is the caller's own.
func TestGrantsAreValues(t *testing.T) {
	x := made(t, 2, 1, 1, 100, 2, 50)
	g, _ := x.Acquire(1, 0)
	h := g
	h.Kind, h.Link, h.Backend = 9, 9, 9
	x.acquire(2, 0, dial(2, 1))
	if g != dial(1, 0) {
		t.Errorf("the grant became %v", g)
	}
}

package pool_test

import (
	"math"
	"math/rand"
	"slices"
	"testing"

	"turnpike/api"
	"turnpike/pool"
)

// chance: choices of all kinds.
type chance struct{ *rand.Rand }

// pick: one of some.
func pick[T any](c chance, list ...T) T { return list[c.Intn(len(list))] }

// rare: once in n times.
func (c chance) rare(n int) bool { return c.Intn(n) == 0 }

// config: mostly a small one, so that all its bounds are met.
func (c chance) config() pool.Config {
	if c.rare(20) {
		return pool.Config{Backends: 16, Links: pick(c, 1, 2, 16), Queue: 256, Idle: 1 << 20, Fails: 100, Down: 1 << 20}
	}
	return pool.Config{
		Backends: 1 + c.Intn(4),
		Links:    1 + c.Intn(4),
		Queue:    c.Intn(5),
		Idle:     pick(c, 1, 2, 10, 30, 100),
		Fails:    pick(c, 1, 2, 2, 3, 5),
		Down:     pick(c, 1, 5, 20, 100),
	}
}

// life: a pool and a model of it, to which the same happens.
type life struct {
	chance
	*testing.T
	p     *pool.Pool
	m     *model
	now   int
	drift int // so many ticks a step at the most
}

// born: a life, at any time.
func born(t *testing.T, seed int64) *life {
	c := chance{rand.New(rand.NewSource(seed))}
	config := c.config()
	p, e := pool.New(config)
	if e != api.OK {
		t.Fatalf("New(%v): %d", config, e)
	}
	return &life{c, t, p, &model{Config: config}, pick(c, 0, 0, 1000, last-200), pick(c, 0, 1, 3, 10)}
}

// time: mostly now, at times one that is past, or none.
func (l *life) time() int {
	l.now = min(l.now+l.Intn(l.drift+1), last)
	switch {
	case l.rare(30):
		return pick(l.chance, -1, math.MinInt, last+1, math.MaxInt)
	case l.rare(30):
		return pick(l.chance, 0, max(0, l.now-l.Intn(40)), last)
	}
	return l.now
}

// link: mostly one of those that were dialled last, at times any number.
func (l *life) link() int {
	switch {
	case l.rare(15):
		return pick(l.chance, 0, -1, l.m.dialled+1, l.m.dialled+2, math.MaxInt, math.MinInt)
	case l.rare(4):
		return l.Intn(l.m.dialled + 1)
	}
	return max(1, l.m.dialled-l.Intn(l.m.Backends*l.m.Links+1))
}

// ticket: of few, so that it waits often.
func (l *life) ticket() int { return l.Intn(8) - 1 }

// hold: what two calls answered is alike.
func hold[T comparable](l *life, call string, got, want T) {
	l.Helper()
	if got != want {
		l.Fatalf("%v at %d: %s: %v, want %v", l.m.Config, l.now, call, got, want)
	}
}

// granted: an answer to Acquire or Serve.
type granted struct {
	ticket int
	g      pool.Grant
	e      api.Errno
	ok     bool
}

// step: something happens to both.
func (l *life) step() {
	l.Helper()
	link, now, ticket := l.link(), l.time(), l.ticket()
	switch l.Intn(12) {
	case 0, 1, 2:
		var got, want granted
		got.g, got.e = l.p.Acquire(ticket, now)
		want.g, want.e = l.m.Acquire(ticket, now)
		hold(l, "Acquire", got, want)
	case 3:
		var got, want granted
		got.ticket, got.g, got.ok = l.p.Serve(now)
		want.ticket, want.g, want.ok = l.m.Serve(now)
		hold(l, "Serve", got, want)
	case 4:
		hold(l, "Cancel", l.p.Cancel(ticket), l.m.Cancel(ticket))
	case 5, 6:
		hold(l, "Opened", l.p.Opened(link), l.m.Opened(link))
	case 7:
		hold(l, "Failed", l.p.Failed(link, now), l.m.Failed(link, now))
	case 8, 9:
		again := !l.rare(4)
		hold(l, "Release", l.p.Release(link, again, now), l.m.Release(link, again, now))
	case 10:
		if l.rare(3) {
			hold(l, "Lost", l.p.Lost(link), l.m.Lost(link))
		}
	case 11:
		got, want := l.p.Expire(now), l.m.Expire(now)
		if !slices.Equal(got, want) {
			l.Fatalf("%v at %d: Expire(%d): %v, want %v", l.m.Config, l.now, now, got, want)
		}
	}
}

// look: what can be asked without a change.
func (l *life) look() {
	l.Helper()
	var got, want struct {
		at int
		ok bool
	}
	got.at, got.ok = l.p.Timer()
	want.at, want.ok = l.m.Timer()
	hold(l, "Timer", got, want)
	for server := -1; server <= l.m.Backends; server++ {
		var got, want [2]int
		got[0], got[1] = l.p.Count(server)
		want[0], want[1] = l.m.Count(server)
		hold(l, "Count", got, want)
		for _, now := range []int{0, l.now, l.now + l.Intn(l.m.Down+1), -1, last + 1} {
			hold(l, "Up", l.p.Up(server, now), l.m.Up(server, now))
		}
	}
}

// P21.1 to P21.6: whatever happens to a pool, each of its calls answers what the chapter's words say.
func TestLives(t *testing.T) {
	lives := 3000
	if testing.Short() {
		lives = 300
	}
	for seed := range lives {
		l := born(t, int64(seed))
		for range 20 + l.Intn(100) {
			l.step()
			l.look()
		}
	}
}

// P21.2 to P21.5: a pool that is used as it should be, with each link let go in the end, answers what the chapter's words say, and all who wait are served.
func TestOrderlyLives(t *testing.T) {
	for seed := range 300 {
		l := born(t, int64(seed))
		if l.m.Backends > 4 {
			continue // the model reads its whole book for each link
		}
		for ticket := 0; ticket < 60; ticket++ {
			g, e := l.p.Acquire(ticket, l.now)
			want, _ := l.m.Acquire(ticket, l.now)
			hold(l, "Acquire", granted{g: g, e: e}, granted{g: want})
			link := l.link()
			l.now = min(l.now+l.Intn(l.drift+1), last)
			hold(l, "Opened", l.p.Opened(link), l.m.Opened(link))
			link = l.link()
			hold(l, "Release", l.p.Release(link, true, l.now), l.m.Release(link, true, l.now))
			l.serveAll()
			l.look()
		}
		for link := 1; link <= l.m.dialled; link++ {
			l.p.Opened(link)
			l.m.Opened(link)
			hold(l, "Release", l.p.Release(link, false, l.now), l.m.Release(link, false, l.now))
		}
		for range l.m.Queue { // each round lets one go at the least
			for link := l.m.dialled; link > 0; link-- {
				hold(l, "Lost", l.p.Lost(link), l.m.Lost(link))
			}
			l.serveAll()
		}
		if len(l.m.waiting) > 0 {
			t.Fatalf("%v: %v wait still", l.m.Config, l.m.waiting)
		}
	}
}

// serveAll: as many as can be served.
func (l *life) serveAll() {
	l.Helper()
	for {
		var got, want granted
		got.ticket, got.g, got.ok = l.p.Serve(l.now)
		want.ticket, want.g, want.ok = l.m.Serve(l.now)
		hold(l, "Serve", got, want)
		if !got.ok {
			return
		}
	}
}

package conn_test

import (
	"math/rand"
	"slices"
	"testing"

	"turnpike/api"
	"turnpike/conn"
)

// way: one direction of a stream, as it is known from the calls.
type way struct {
	written  int
	finished bool
	reset    bool // by who writes
	stopped  bool // by who reads
	read     int
	ended    bool
	resets   int // how often a reset was told to the reader
	stops    int // how often a stop was told to the writer
	code     int // of the reset
	stopCode int
}

// key: a way of a stream, by who writes.
type key struct{ writer, id int }

// play: two sides that do this and that, and what is known of it.
type play struct {
	*net
	r    *rand.Rand
	ways map[key]*way
	ids  [2][]int // streams that a side knows of
	seen [2]map[int]int
	mild bool   // nobody resets or stops
	most [2]int // how much a side writes on a stream at most
	keep int    // how much both sides keep of a way, one to send and the other unread
}

// byteAt: what is written at a place of a way.
func byteAt(k key, place int) byte {
	return byte(place*7 + place>>8*31 + k.id*13 + k.writer*101)
}

// run: so many bytes of a way, from a place on.
func run(k key, place, size int) []byte {
	b := make([]byte, size)
	for i := range b {
		b[i] = byteAt(k, place+i)
	}
	return b
}

// of: what is known of a way.
func (p *play) of(k key) *way {
	if p.ways[k] == nil {
		p.ways[k] = &way{}
	}
	return p.ways[k]
}

// goes: whether the writer can send on a stream.
func goes(k key) bool { return k.id&2 == 0 || k.id&1 == k.writer }

// newPlay: a play over a net.
func newPlay(n *net, seed int64) *play {
	return &play{net: n, r: rand.New(rand.NewSource(seed)), ways: map[key]*way{}, seen: [2]map[int]int{{}, {}}, most: [2]int{1 << 20, 1 << 20}, keep: 1 << 20}
}

// hear: the events of both sides, held against what was done.
func (p *play) hear() {
	p.t.Helper()
	for side := range p.sides {
		for _, e := range p.sides[side].Events() {
			p.hearOne(side, e)
		}
	}
}

// hearOne: one event.
func (p *play) hearOne(side int, e conn.Event) {
	p.t.Helper()
	p.seen[side][e.Kind]++
	there := key{1 - side, e.ID}
	here := key{side, e.ID}
	switch e.Kind {
	case conn.Ready:
		if p.seen[side][conn.Ready] > 1 || p.seen[side][conn.Opened] > 0 || e.ID != 0 || e.Code != 0 || p.sides[side].Proto() != "h3" {
			p.t.Fatalf("side %d: Ready: %v", side, e)
		}
	case conn.Opened:
		if p.seen[side][conn.Ready] == 0 || e.ID&1 == side || slices.Contains(p.ids[side], e.ID) || !slices.Contains(p.ids[1-side], e.ID) || e.Code != 0 {
			p.t.Fatalf("side %d: Opened: %v", side, e)
		}
		p.ids[side] = append(p.ids[side], e.ID)
	case conn.Reset:
		w := p.of(there)
		w.resets++
		if !w.reset || w.resets > 1 || w.code != e.Code || !slices.Contains(p.ids[side], e.ID) {
			p.t.Fatalf("side %d: Reset: %v", side, e)
		}
	case conn.Stopped:
		w := p.of(here)
		w.stops++
		if !w.stopped || w.stops > 1 || w.stopCode != e.Code || !slices.Contains(p.ids[side], e.ID) {
			p.t.Fatalf("side %d: Stopped: %v", side, e)
		}
	default:
		p.t.Fatalf("side %d: %v", side, e)
	}
}

// write: some bytes, if the stream takes them.
func (p *play) write(k key, size int) {
	p.t.Helper()
	w := p.of(k)
	data := run(k, w.written, size)
	n, e := p.sides[k.writer].Write(k.id, data)
	spoil(data)
	switch {
	case w.reset && e == api.ErrStream && n == 0:
	case !w.reset && (w.finished || w.stops > 0) && e == api.ErrDone && n == 0:
	case !w.reset && !w.finished && e == api.ErrDone && n == 0 && w.stopped: // the event waits still
	case !w.reset && !w.finished && e == api.OK && n >= 0 && n <= size:
		w.written += n
		if w.written-w.read > p.keep {
			p.t.Fatalf("P12.5: of %v %d bytes were taken, and %d read", k, w.written, w.read)
		}
	default:
		p.t.Fatalf("Write on %v: %d, %d; %+v", k, n, e, *w)
	}
}

// finish: the end, if it is not there yet.
func (p *play) finish(k key) {
	p.t.Helper()
	w := p.of(k)
	switch e := p.sides[k.writer].Finish(k.id); {
	case w.reset && e == api.ErrStream:
	case !w.reset && w.finished && e == api.ErrDone:
	case !w.reset && w.stopped && e == api.ErrDone:
	case !w.reset && !w.finished && e == api.OK:
		w.finished = true
	default:
		p.t.Fatalf("Finish on %v: %d; %+v", k, e, *w)
	}
}

// read: some bytes, held against what was written.
func (p *play) read(k key, size int) int {
	p.t.Helper()
	w := p.of(k)
	data, end, e := p.sides[1-k.writer].Read(k.id, size)
	if e != api.OK || len(data) > max(0, size) || w.read+len(data) > w.written {
		p.t.Fatalf("Read on %v: %d bytes, %d; %+v", k, len(data), e, *w)
	}
	for i, b := range data {
		if b != byteAt(k, w.read+i) {
			p.t.Fatalf("Read on %v: another byte at %d", k, w.read+i)
		}
	}
	w.read += len(data)
	spoil(data)
	if end && (!w.finished || w.read != w.written) || w.ended && !end {
		p.t.Fatalf("Read on %v: end %t; %+v", k, end, *w)
	}
	w.ended = end
	return len(data)
}

// reset: the writer gives up. Whether anything comes of it is seen by doing it again.
func (p *play) reset(k key) {
	p.t.Helper()
	w, code := p.of(k), p.r.Intn(1000)
	x := p.sides[k.writer]
	e := x.Reset(k.id, code)
	if w.reset {
		if e != api.ErrStream {
			p.t.Fatalf("Reset on %v: %d; %+v", k, e, *w)
		}
		return
	}
	if e != api.OK {
		p.t.Fatalf("Reset on %v: %d; %+v", k, e, *w)
	}
	switch e := x.Reset(k.id, code); {
	case e == api.ErrStream:
		w.reset, w.code = true, code
	case e != api.OK || !w.finished:
		p.t.Fatalf("Reset on %v again: %d; %+v", k, e, *w)
	}
}

// stop: the reader wants no more.
func (p *play) stop(k key) {
	p.t.Helper()
	w, code := p.of(k), p.r.Intn(1000)
	if e := p.sides[1-k.writer].Stop(k.id, code); e != api.OK {
		p.t.Fatalf("Stop on %v: %d; %+v", k, e, *w)
	}
	if !w.stopped && !w.ended {
		w.stopped, w.stopCode = true, code
	}
}

// act: a side does something.
func (p *play) act(side int) {
	p.t.Helper()
	x := p.sides[side]
	if x.State() != conn.Open {
		return
	}
	if p.r.Intn(4) == 0 {
		if id, e := x.Open(p.r.Intn(3) > 0); e == api.OK {
			if slices.Contains(p.ids[side], id) {
				p.t.Fatalf("Open: %d again", id)
			}
			p.ids[side] = append(p.ids[side], id)
		} else if e != api.ErrLimit {
			p.t.Fatalf("Open: %d", e)
		}
	}
	if len(p.ids[side]) == 0 {
		return
	}
	id := p.ids[side][p.r.Intn(len(p.ids[side]))]
	k, other := key{side, id}, key{1 - side, id}
	switch c := p.r.Intn(20); {
	case c < 8 && goes(k):
		p.write(k, min(p.r.Intn(1+p.r.Intn(3000)), p.most[side]-p.of(k).written))
	case c < 10 && goes(k):
		p.finish(k)
	case c < 18 && goes(other):
		p.read(other, p.r.Intn(1+p.r.Intn(3000)))
	case c == 19 && !p.mild && p.r.Intn(4) == 0 && goes(k):
		p.reset(k)
	case c == 18 && !p.mild && p.r.Intn(4) == 0 && goes(other):
		p.stop(other)
	}
}

// readAll: a side reads all there is; whether it was anything.
func (p *play) readAll(side int) bool {
	p.t.Helper()
	some := false
	for _, id := range p.ids[side] {
		if k := (key{1 - side, id}); goes(k) {
			some = p.read(k, 1<<20) > 0 || some
		}
	}
	return some
}

// conclude: nothing gets lost from now on, and both read all there is, till nothing happens any more: then all has come.
func (p *play) conclude() {
	p.t.Helper()
	p.fate = aTickLater
	for i := 0; ; i++ {
		more := p.step()
		p.hear()
		a, b := p.readAll(client), p.readAll(server)
		if !more && !a && !b {
			break
		}
		if i > 100000 {
			p.t.Fatalf("P12.3: it does not come to an end")
		}
	}
	p.wantStates(conn.Open, conn.Open)
	for k, w := range p.ways {
		if !slices.Contains(p.ids[1-k.writer], k.id) && w.written == 0 && !w.finished && !w.reset {
			continue // nothing was said of it
		}
		switch {
		case w.reset || w.stopped:
		case w.read != w.written:
			p.t.Fatalf("P12.3: of %v %d bytes were read of %d", k, w.read, w.written)
		case w.finished && !w.ended:
			p.t.Fatalf("P12.3: the end of %v was not read", k)
		}
		if w.reset && w.resets == 0 && !(w.finished && w.read == w.written) {
			p.t.Fatalf("the reset of %v was not told: %+v", k, *w)
		}
		if w.stopped && w.stops == 0 {
			p.t.Fatalf("the stop of %v was not told: %+v", k, *w)
		}
	}
}

// rough: a network that loses, doubles and delays, each so often as is said (of 100).
func rough(r *rand.Rand, loss, twice, late int) func(int, []byte) []int {
	return func(int, []byte) []int {
		if r.Intn(100) < loss {
			return nil
		}
		delay := func() int {
			if r.Intn(100) < late {
				return 1 + r.Intn(1+r.Intn(2000))
			}
			return 1 + r.Intn(5)
		}
		list := []int{delay()}
		for r.Intn(100) < twice {
			list = append(list, delay())
		}
		return list
	}
}

// randomConfig: bounds of any size.
func randomConfig(r *rand.Rand, side int) conn.Config {
	c := configOf(side)
	c.Room = []int{1, 2, 10, 100, 1000, 5000, 65536}[r.Intn(7)]
	c.All = c.Room * (1 + r.Intn(1+r.Intn(10)))
	c.Both, c.One = r.Intn(1+r.Intn(6)), r.Intn(1+r.Intn(6))
	r.Read(c.Random[:])
	c.Private = 1 + r.Intn(1<<40)
	return c
}

// P12.3, P12.7: many lives over networks that lose, double, delay and turn round, then over one that does not.
func TestLives(t *testing.T) {
	for seed := range int64(400) {
		r := rand.New(rand.NewSource(seed))
		c, s := randomConfig(r, client), randomConfig(r, server)
		n := newNet(t, c, s)
		p := newPlay(n, seed)
		p.mild = seed%2 == 0
		p.keep = c.Room + s.Room
		p.most = [2]int{100 * s.Room, 100 * c.Room} // each byte takes its own way where there is room for one only
		n.fate = rough(r, r.Intn(1+r.Intn(90)), r.Intn(1+r.Intn(60)), r.Intn(1+r.Intn(50)))
		for range 50 + r.Intn(400) {
			n.step()
			p.hear()
			for range r.Intn(6) {
				p.act(r.Intn(2))
			}
		}
		p.conclude()
	}
}

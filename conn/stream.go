package conn

import (
	"turnpike/reasm"
	"turnpike/sendq"
)

// The bits of a stream's number, below its place among those of its kind.
const (
	bitServer = 1
	bitOne    = 2
	kindBits  = 3
	placeAt   = 2
)

// The ways that a stream goes, as places.
const (
	bothWays = 0
	oneWay   = 1
)

// limits: how far this side may send at first on streams of both ways that are ours and theirs, and on those of one way.
type limits struct{ ours, theirs, one int }

// stream: one stream, with the ways that it has here.
type stream struct {
	id     int
	in     *incoming // nil, if it goes away from this side only
	out    *outgoing // nil, if it comes only
	listed bool      // it is among those of which something may have to go
	over   bool      // the other side has been allowed another one for it
}

// incoming: what the other side sends.
type incoming struct {
	buffer *reasm.Buffer // nil, once nothing more is to be read
	window window
	final  int  // its size, once there is no buffer
	ended  bool // a Read has told its end
	reset  bool

	stopped  bool // this side wants no more
	stop     notice
	stopCode int
}

// let: the buffer is kept no longer.
func (in *incoming) let() {
	in.final, _ = in.buffer.Final()
	in.buffer = nil
}

// known: whether its size is known.
func (in *incoming) known() bool {
	if in.buffer == nil {
		return true
	}
	_, known := in.buffer.Final()
	return known
}

// whole: whether all has come, with its end, where there is a buffer still.
func (in *incoming) whole() bool {
	final, known := in.buffer.Final()
	return known && in.buffer.Offset()+in.buffer.Ready() == final
}

// over: whether it was read to its end or given up.
func (in *incoming) over() bool { return in.ended || in.reset || in.stopped }

// silent: whether nothing of it will have to be told any more.
func (in *incoming) silent() bool { return (in.over() || in.whole()) && !in.stop.open() }

// outgoing: what this side sends.
type outgoing struct {
	queue    *sendq.Queue // nil, once nothing of it is to go any more
	limit    int          // how far the other side lets it go
	final    int          // how much went, once there is no queue
	finished bool
	arrived  bool // all of it, with its end
	stopped  bool // the other side wants no more

	given     bool // this side gave it up
	reset     notice
	resetCode int
}

// let: the queue is kept no longer.
func (o *outgoing) let() {
	if o.queue != nil {
		o.final, o.queue = o.queue.Sent(), nil
	}
}

// over: whether it was sent to its end, all of it arrived, or given up.
func (o *outgoing) over() bool { return o.arrived || o.given || o.stopped }

// silent: whether nothing of it will have to go any more.
func (o *outgoing) silent() bool { return o.queue == nil && !o.reset.open() }

// look: whether the queue has come to its end.
func (o *outgoing) look() {
	switch {
	case o.queue == nil:
	case o.queue.Done():
		o.arrived = true
		o.let()
	case o.stopped && o.queue.Base() == o.queue.Sent() && !o.ending():
		o.let() // nothing more is to go, and the other side knows how much that was
	}
}

// ending: whether only the end is under way, or has yet to go.
func (o *outgoing) ending() bool { return o.finished && o.queue.Sent() == o.queue.Written() }

// silent: whether nothing has to go any more, unless something happens.
func (s *stream) silent() bool {
	return (s.in == nil || s.in.silent()) && (s.out == nil || s.out.silent())
}

// ours: whether a stream is one that this side opens.
func (c *Conn) ours(id int) bool { return (id&bitServer != 0) == c.server }

// wayOf: the ways that a stream goes.
func wayOf(id int) int { return id & bitOne >> 1 }

// add: a stream is open.
func (c *Conn) add(id int) *stream {
	s := &stream{id: id}
	both := wayOf(id) == bothWays
	if both || !c.ours(id) {
		buffer, _ := reasm.New(c.room)
		s.in = &incoming{buffer: buffer, window: window{size: c.room, limit: c.room}}
	}
	if both || c.ours(id) {
		queue, _ := sendq.New(c.room)
		s.out = &outgoing{queue: queue, limit: c.firstLimit(id)}
	}
	c.streams[id] = s
	c.opened[id&kindBits]++
	c.list(s)
	return s
}

// firstLimit: how far this side may send on a stream at first.
func (c *Conn) firstLimit(id int) int {
	switch {
	case wayOf(id) == oneWay:
		return c.limits.one
	case c.ours(id):
		return c.limits.ours
	}
	return c.limits.theirs
}

// list: something may have to go of the stream.
func (c *Conn) list(s *stream) {
	if !s.listed {
		s.listed = true
		c.live = append(c.live, s)
	}
}

// conclude: what follows, if a stream, or the sending on it, has come to its end.
func (c *Conn) conclude(s *stream) {
	if s.out != nil {
		s.out.look()
	}
	if s.over || c.ours(s.id) || !s.in.over() || s.out != nil && !s.out.over() {
		return
	}
	s.over = true
	a := &c.allowed[wayOf(s.id)]
	a.limit++
	a.due = true
}

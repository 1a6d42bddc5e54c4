package conn

import (
	"turnpike/api"
	"turnpike/frame"
)

// named: the stream that the other side names; nil, if there can't be such a one.
func (c *Conn) named(id int) *stream {
	if s := c.streams[id]; s != nil {
		return s
	}
	if c.ours(id) {
		c.fail(codeStream)
		return nil
	}
	place, kind := id>>placeAt, id&kindBits
	if place >= c.allowed[wayOf(id)].limit {
		c.fail(codeStreams)
		return nil
	}
	for c.opened[kind] <= place {
		s := c.add(c.opened[kind]<<placeAt | kind)
		c.tell(Opened, s.id, 0)
	}
	return c.streams[id]
}

// takeForReading: what a frame says of what the other side sends.
func (c *Conn) takeForReading(f frame.Frame) {
	s := c.named(f.ID)
	switch {
	case s == nil:
	case s.in == nil:
		c.fail(codeStream)
	case f.Kind == kindStream:
		c.takeData(s, f)
	case f.Kind == kindReset:
		c.takeReset(s, f)
	}
}

// takeData: bytes of a stream.
func (c *Conn) takeData(s *stream, f frame.Frame) {
	if s.in.buffer != nil {
		c.put(s, f.At, f.Data, f.Fin)
		return
	}
	if end := f.At + len(f.Data); end > s.in.final || f.Fin && end < s.in.final {
		c.fail(codeFinal)
	}
}

// takeReset: the other side gave up sending. Where all has come ahead of that, nothing comes of it.
func (c *Conn) takeReset(s *stream, f frame.Frame) {
	in := s.in
	if in.buffer == nil {
		if f.N != in.final {
			c.fail(codeFinal)
		}
		return
	}
	whole := in.whole()
	if !c.put(s, f.N, nil, true) || whole {
		return
	}
	c.in.taken += f.N - in.buffer.Offset()
	in.reset = true
	in.let()
	c.tell(Reset, s.id, f.Code)
	c.conclude(s)
}

// put: a piece of a stream, if there is room for it on the stream and on all of them together.
func (c *Conn) put(s *stream, at int, data []byte, fin bool) bool {
	b := s.in.buffer
	more := max(0, at+len(data)-b.High())
	if c.in.high-c.in.taken+more > c.in.size {
		c.fail(codeFlow)
		return false
	}
	if _, e := b.Put(at, data, fin); e != api.OK {
		c.fail(codeOf(e))
		return false
	}
	c.in.high += more
	return true
}

// codeOf: the code for what layer 3 refuses. A place that is no number has been found by layer 5.
func codeOf(e api.Errno) int {
	if e == api.ErrFinal {
		return codeFinal
	}
	return codeFlow
}

// takeForWriting: what a frame says of what this side sends.
func (c *Conn) takeForWriting(f frame.Frame) {
	s := c.named(f.ID)
	switch {
	case s == nil:
	case s.out == nil:
		c.fail(codeStream)
	case f.Kind == kindMaxStream:
		s.out.limit = max(s.out.limit, f.N)
	case !s.out.stopped:
		s.out.stopped = true
		c.tell(Stopped, s.id, f.Code)
		c.conclude(s)
	}
}

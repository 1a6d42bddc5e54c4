package conn

import "turnpike/api"

// Open: a new stream.
func (c *Conn) Open(both bool) (int, api.Errno) {
	switch {
	case c.state >= Closing:
		return 0, api.ErrClosed
	case c.state == Shaking:
		return 0, api.ErrState
	}
	kind := 0
	if c.server {
		kind |= bitServer
	}
	if !both {
		kind |= bitOne
	}
	if c.opened[kind] >= c.may[wayOf(kind)] {
		return 0, api.ErrLimit
	}
	return c.add(c.opened[kind]<<placeAt | kind).id, api.OK
}

// forWriting: the way of a stream by which this side sends.
func (c *Conn) forWriting(id int) (*stream, api.Errno) {
	if c.state >= Closing {
		return nil, api.ErrClosed
	}
	s := c.streams[id]
	if s == nil || s.out == nil || s.out.given {
		return nil, api.ErrStream
	}
	return s, api.OK
}

// forMore: the same, where more may be written.
func (c *Conn) forMore(id int) (*outgoing, api.Errno) {
	s, e := c.forWriting(id)
	if e != api.OK {
		return nil, e
	}
	if s.out.finished || s.out.stopped {
		return nil, api.ErrDone
	}
	return s.out, api.OK
}

// Write: bytes for a stream.
func (c *Conn) Write(id int, data []byte) (int, api.Errno) {
	o, e := c.forMore(id)
	if e != api.OK {
		return 0, e
	}
	return o.queue.Write(data)
}

// Finish: the end of a stream.
func (c *Conn) Finish(id int) api.Errno {
	o, e := c.forMore(id)
	if e != api.OK {
		return e
	}
	o.finished = true
	return o.queue.Finish()
}

// Reset: we give up sending.
func (c *Conn) Reset(id, code int) api.Errno {
	s, e := c.forWriting(id)
	switch {
	case e != api.OK:
		return e
	case !within(code, 0, api.MaxNum):
		return api.ErrRange
	case s.out.arrived:
		return api.OK
	}
	s.out.given, s.out.resetCode, s.out.reset.due = true, code, true
	s.out.let()
	c.list(s)
	c.conclude(s)
	return api.OK
}

// forReading: the way of a stream by which the other side sends; false, if there is none.
func (c *Conn) forReading(id int) (*stream, bool) {
	s := c.streams[id]
	return s, s != nil && s.in != nil
}

// Read: bytes of a stream.
func (c *Conn) Read(id, n int) (data []byte, end bool, e api.Errno) {
	if c.state == Gone {
		return nil, false, api.ErrClosed
	}
	s, ok := c.forReading(id)
	if !ok {
		return nil, false, api.ErrStream
	}
	if s.in.buffer == nil {
		return nil, s.in.ended, api.OK
	}
	data, s.in.ended = s.in.buffer.Read(n)
	c.in.taken += len(data)
	if s.in.ended {
		s.in.let()
		c.conclude(s)
	}
	return data, s.in.ended, api.OK
}

// Stop: we want no more.
func (c *Conn) Stop(id, code int) api.Errno {
	if c.state >= Closing {
		return api.ErrClosed
	}
	s, ok := c.forReading(id)
	switch {
	case !ok:
		return api.ErrStream
	case !within(code, 0, api.MaxNum):
		return api.ErrRange
	case s.in.ended || s.in.stopped:
		return api.OK
	}
	s.in.stopped, s.in.stopCode, s.in.stop.due = true, code, true
	c.list(s)
	c.conclude(s)
	return api.OK
}

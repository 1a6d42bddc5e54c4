package conn

import (
	"turnpike/api"
	"turnpike/frame"
	"turnpike/params"
	"turnpike/sendq"
)

// packer puts a packet together.
type packer struct {
	place   int
	width   int // bytes of the packet's number
	around  int // bytes beside the payload
	left    int // bytes that the payload may have more
	payload []byte
	elicits bool
	loads   []load
}

// load: what is to be done about a frame.
type load struct {
	arrived, lost func()
}

// size: how many bytes the packet will have.
func (p *packer) size() int { return p.around + len(p.payload) }

// pad: so many bytes that say nothing.
func (p *packer) pad(n int) {
	p.payload = append(p.payload, make([]byte, max(0, n))...)
}

// add: a frame, if there is room for it.
func (p *packer) add(f frame.Frame) bool {
	b, _ := frame.Encode(f) // frames are right here, by how they are made
	if len(b) > p.left {
		return false
	}
	p.payload = append(p.payload, b...)
	p.left -= len(b)
	p.elicits = p.elicits || frame.Elicits(f)
	return true
}

// carry: what is to be done about the frame that was added last.
func (p *packer) carry(arrived, lost func()) {
	p.loads = append(p.loads, load{arrived: arrived, lost: lost})
}

// parcel: what is to be done about the whole packet.
func (p *packer) parcel() parcel {
	loads := p.loads
	return parcel{
		arrived: func() {
			for _, l := range loads {
				l.arrived()
			}
		},
		lost: func() {
			for _, l := range loads {
				l.lost()
			}
		},
		elicits: p.elicits,
	}
}

// notify: a notice, if it is due; false, if there is no room for it.
func (p *packer) notify(n *notice, f frame.Frame) bool {
	if !n.due {
		return true
	}
	if !p.add(f) {
		return false
	}
	p.carry(n.tell())
	return true
}

// packClose: what a side tells that closes. Ahead of the application's packets only the transport can.
func (c *Conn) packClose(p *packer) {
	f := frame.Frame{Kind: kindClose, Code: c.ending.code}
	if c.ending.byUser && p.place == application {
		f.Kind = kindCloseByUser
	}
	p.add(f)
}

// packFrames: what a side tells else; what asks for an acknowledgement only where that is free.
func (c *Conn) packFrames(p *packer, free bool) {
	s := &c.spaces[p.place]
	c.packAck(s, p)
	if !free {
		return
	}
	if p.place == application {
		c.packNotices(p)
		c.packStreams(p)
	} else {
		p.packQueue(s.say, frame.Frame{Kind: kindCrypto}, api.MaxNum, func() {})
	}
	// Who only acknowledges must ask now and then whether that is heard, or it would never know what to leave out.
	lonely := len(p.payload) > 0 && s.quiet >= mostQuiet
	if !p.elicits && (s.probe || lonely) {
		p.add(frame.Frame{Kind: kindPing})
	}
}

// packAck: which packets came, if one of them asked for it.
func (c *Conn) packAck(s *space, p *packer) {
	list := s.received.List()
	if !s.ackDue || len(list) == 0 {
		return
	}
	delay := (c.now - s.highAt) >> params.Usual().Exponent
	if !p.add(frame.Frame{Kind: kindAck, Spans: list, Delay: delay}) {
		return
	}
	s.ackDue = false
	received, told := s.received, list[len(list)-1].To
	p.carry(func() { received.Raise(told + 1) }, func() {})
}

// packNotices: what is told of the whole connection.
func (c *Conn) packNotices(p *packer) {
	p.notify(&c.confirm, frame.Frame{Kind: kindShaken})
	for way := range c.allowed {
		a := &c.allowed[way]
		p.notify(&a.notice, frame.Frame{Kind: kindMaxBoth + way, N: a.limit})
	}
	p.widen(&c.in.window, frame.Frame{Kind: kindMaxData}, c.in.taken, c.in.high)
}

// widen: how far the other side may send, if it is to hear of it; false, if there is no room for that.
func (p *packer) widen(w *window, f frame.Frame, taken, high int) bool {
	if w.due = w.widens(taken, high); w.due {
		w.limit = taken + w.size
	}
	f.N = w.limit
	return p.notify(&w.notice, f)
}

// packStreams: what is to go of the streams, one after the other, until the packet is full.
func (c *Conn) packStreams(p *packer) {
	for range len(c.live) {
		s := c.live[0]
		if !c.packStream(p, s) {
			return
		}
		c.live = append(c.live[1:], s)
	}
}

// packStream: what is to go of a stream; false, if the packet is full.
func (c *Conn) packStream(p *packer, s *stream) bool {
	if s.in != nil && !p.packIncoming(s) {
		return false
	}
	o := s.out
	if o == nil {
		return true
	}
	if !p.notify(&o.reset, frame.Frame{Kind: kindReset, ID: s.id, Code: o.resetCode, N: o.final}) {
		return false
	}
	if o.queue == nil {
		return true
	}
	sent := o.queue.Sent()
	fits := p.packQueue(o.queue, frame.Frame{Kind: kindStream, ID: s.id}, c.limitOf(o), func() { c.conclude(s) })
	c.out.sent += o.queue.Sent() - sent
	return fits
}

// packIncoming: what is to go about the other side's sending on a stream; false, if the packet is full.
func (p *packer) packIncoming(s *stream) bool {
	in := s.in
	if !p.notify(&in.stop, frame.Frame{Kind: kindStop, ID: s.id, Code: in.stopCode}) {
		return false
	}
	if in.known() || in.stopped {
		return true // no more room is asked for
	}
	return p.widen(&in.window, frame.Frame{Kind: kindMaxStream, ID: s.id}, in.buffer.Offset(), in.buffer.High())
}

// packQueue: chunks of a queue below a limit, in frames like that one, and what follows when one arrives; false, if the packet is full.
func (p *packer) packQueue(q *sendq.Queue, f frame.Frame, limit int, then func()) bool {
	for {
		f.At, f.Data, f.Fin = q.Written(), nil, false
		empty, _ := frame.Encode(f)
		most := p.left - len(empty) - 1 // the length of what is there takes a byte more than that of nothing
		if most < 1 {
			return false
		}
		at, data, fin, ok := q.Next(most, limit)
		if !ok {
			return true
		}
		f.At, f.Data, f.Fin = at, data, fin
		p.add(f)
		size := len(data)
		p.carry(func() { q.Ack(at, size, fin); then() }, func() { q.Lose(at, size, fin) })
	}
}

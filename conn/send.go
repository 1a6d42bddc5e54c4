package conn

import (
	"turnpike/guard"
	"turnpike/header"
)

const (
	datagramSize = 1200
	tagSize      = 16
	leastPayload = 4  // bytes, so that a packet of any width of number can be protected
	leastRoom    = 64 // bytes that are worth a packet behind others
	mostQuiet    = 16 // packets in a row that ask for no acknowledgement
)

// Send: the datagrams that are to go now.
func (c *Conn) Send(now int) [][]byte {
	c.pass(now)
	var list [][]byte
	for d := c.datagram(); len(d) > 0; d = c.datagram() {
		list = append(list, d)
	}
	return list
}

// datagram: the next one; none, if nothing is to go.
func (c *Conn) datagram() []byte {
	if c.state == Gone || c.state == Closing && !c.ending.due {
		return nil
	}
	c.prune()
	c.makeRoom()
	free := c.state == Closing || c.loss.Under()+datagramSize <= c.loss.Window()
	left := datagramSize
	var list []*packer
	for place := range c.spaces {
		if p := c.pack(place, left, free); p != nil {
			list = append(list, p)
			left -= p.size()
		}
	}
	c.ending.due = false
	if len(list) == 0 {
		return nil
	}
	if !c.server && list[0].place == initial {
		list[len(list)-1].pad(left)
	}
	var d []byte
	for _, p := range list {
		d = append(d, c.seal(p)...)
	}
	c.dropInitial(list)
	return d
}

// makeRoom: layer 11 takes no more packets of a space than so many; where all of these have been waited for in vain, they are waited for no longer.
func (c *Conn) makeRoom() {
	for place := range c.spaces {
		if len(c.spaces[place].sent) >= mostOut {
			gone, _ := c.loss.Drop(place)
			c.lose(place, gone)
		}
	}
}

// dropInitial: a client that sends a packet of the handshake needs no initial ones any more.
func (c *Conn) dropInitial(list []*packer) {
	if c.server || c.state == Closing || c.spaces[initial].over {
		return
	}
	for _, p := range list {
		if p.place == handshake {
			c.drop(initial)
			return
		}
	}
}

// pack: what is to go in a packet of a space; nil, if there is nothing, or no room for it.
func (c *Conn) pack(place, left int, free bool) *packer {
	s := &c.spaces[place]
	if s.open == nil {
		return nil
	}
	p := &packer{place: place, width: header.Width(s.next, s.acked)}
	p.around = len(c.head(p)) + p.width + tagSize
	p.left = left - p.around
	if p.left < leastRoom {
		return nil
	}
	if c.state == Closing {
		c.packClose(p)
	} else {
		c.packFrames(p, free || s.probe)
	}
	if len(p.payload) == 0 {
		return nil
	}
	p.pad(leastPayload - len(p.payload))
	return p
}

// head: the header of a packet.
func (c *Conn) head(p *packer) []byte {
	h := header.Header{Kind: kindOf(p.place), Dst: c.peer, Src: c.own, Length: p.width + len(p.payload) + tagSize}
	if !c.server {
		h.Token = c.token
	}
	b, _ := header.Build(h, p.width) // ids, token and length are within their bounds
	if p.place == application && c.turn.phase == 1 {
		b[0] |= bitPhase
	}
	return b
}

// bitPhase: the bit of a short packet's first byte that tells the phase of its keys.
const bitPhase = 0x04

// seal: the packet, which is out then.
func (c *Conn) seal(p *packer) []byte {
	s := &c.spaces[p.place]
	number := s.next
	s.next++
	packet, _ := guard.Protect(s.keys, c.head(p), number, p.width, p.payload)
	if c.state == Closing {
		return packet // what becomes of it is of no more interest
	}
	c.loss.Sent(p.place, number, len(packet), p.elicits, c.now)
	s.sent[number] = p.parcel()
	s.quiet++
	if p.elicits {
		s.quiet, s.probe = 0, false
	}
	return packet
}

// prune: streams of which nothing has to go any more are not gone through for it.
func (c *Conn) prune() {
	kept := c.live[:0]
	for _, s := range c.live {
		if s.listed = !s.silent(); s.listed {
			kept = append(kept, s)
		}
	}
	clear(c.live[len(kept):])
	c.live = kept
}

// limitOf: how far a stream may send now.
func (c *Conn) limitOf(o *outgoing) int {
	if o.stopped {
		return o.queue.Sent() // what is lost goes again, so that both sides count the same; nothing new
	}
	return min(o.limit, o.queue.Sent()+c.out.limit-c.out.sent)
}

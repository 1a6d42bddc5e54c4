package conn

import (
	"bytes"
	"slices"

	"turnpike/api"
	"turnpike/frame"
	"turnpike/header"
)

// The kinds of frames, by layer 5.
const (
	kindPadding       = 0
	kindPing          = 1
	kindAck           = 2
	kindAckMarks      = 3
	kindReset         = 4
	kindStop          = 5
	kindCrypto        = 6
	kindNewToken      = 7
	kindStream        = 8
	kindMaxData       = 16
	kindMaxStream     = 17
	kindMaxBoth       = 18
	kindMaxOne        = 19
	kindStreamBlocked = 21
	kindRetireID      = 25
	kindClose         = 28
	kindCloseByUser   = 29
	kindShaken        = 30
)

// Receive: a datagram came.
func (c *Conn) Receive(datagram []byte, now int) {
	c.pass(now)
	c.heard = c.now
	pieces, e := header.Split(datagram, ownSize)
	if e != api.OK {
		return
	}
	for _, p := range pieces {
		packet := datagram[p.From:p.End]
		switch c.state {
		case Gone:
			return
		case Closing:
			c.takeClosing(p.Header, packet, p.At-p.From)
		default:
			c.takePacket(p.Header, packet, p.At-p.From)
		}
	}
}

// mine: whether a packet was sent to this side.
func (c *Conn) mine(h header.Header) bool {
	return bytes.Equal(h.Dst, c.own) || c.server && bytes.Equal(h.Dst, c.first)
}

// unpack: what a packet holds, and the space and number that it has; false, if it can't be read.
func (c *Conn) unpack(h header.Header, packet []byte, at int) (place, number int, payload []byte, ok bool) {
	place = spaceOf(h.Kind)
	if place == none || c.spaces[place].open == nil || !c.mine(h) {
		return 0, 0, nil, false
	}
	s := &c.spaces[place]
	number, payload, e := s.open(packet, at, s.high)
	return place, number, payload, e == api.OK
}

// takePacket: a packet that may say anything.
func (c *Conn) takePacket(h header.Header, packet []byte, at int) {
	place, number, payload, ok := c.unpack(h, packet, at)
	if !ok || c.spaces[place].received.Has(number) {
		return
	}
	c.spaces[place].note(number, c.now)
	c.follow(place, h)
	frames, _, e := frame.Decode(payload)
	if e != api.OK {
		c.fail(codeFrame)
		return
	}
	for _, f := range frames {
		c.takeFrame(place, f)
		if c.state >= Closing {
			return
		}
	}
	if slices.ContainsFunc(frames, frame.Elicits) {
		c.spaces[place].ackDue = true
	}
	c.dropSpent(place)
}

// takeClosing: a packet that comes to a side that is closing. Only a close counts; all else is answered by one.
func (c *Conn) takeClosing(h header.Header, packet []byte, at int) {
	_, _, payload, ok := c.unpack(h, packet, at)
	frames, _, e := frame.Decode(payload)
	if ok && e == api.OK && slices.ContainsFunc(frames, isClose) {
		c.vanish()
		return
	}
	// Who sends by keys that are no more is told, too: it may have no others.
	c.ending.due = c.ending.due || c.mine(h)
}

// isClose: whether a frame closes.
func isClose(f frame.Frame) bool { return f.Kind == kindClose || f.Kind == kindCloseByUser }

// note: a packet of that number came.
func (s *space) note(number, now int) {
	s.received.Add(number, number)
	if number > s.high {
		s.high, s.highAt = number, now
	}
}

// follow: what a packet tells by its head.
func (c *Conn) follow(place int, h header.Header) {
	if place == application {
		c.followTurn()
	}
	if !c.server && !c.answers {
		c.peer = slices.Clone(h.Src)
		c.answers = true
	}
}

// dropSpent: spaces are over, once a packet of this one has shown that the other side needs them no more.
func (c *Conn) dropSpent(place int) {
	if !c.server {
		return
	}
	if place == handshake && !c.spaces[initial].over {
		c.drop(initial)
	}
	if c.state == Open && !c.spaces[handshake].over {
		c.drop(handshake)
	}
}

// takeFrame: what a frame says.
func (c *Conn) takeFrame(place int, f frame.Frame) {
	if !c.mayCarry(place, f.Kind) {
		c.fail(codeProtocol)
		return
	}
	switch f.Kind {
	case kindAck, kindAckMarks:
		c.takeAck(place, f)
	case kindCrypto:
		c.takeCrypto(place, f)
	case kindStream, kindReset, kindStreamBlocked:
		c.takeForReading(f)
	case kindStop, kindMaxStream:
		c.takeForWriting(f)
	case kindMaxData:
		c.out.limit = max(c.out.limit, f.N)
	case kindMaxBoth, kindMaxOne:
		way := f.Kind - kindMaxBoth
		c.may[way] = max(c.may[way], f.N)
	case kindClose, kindCloseByUser:
		c.tell(Ended, 0, f.Code)
		c.vanish()
	case kindShaken:
		c.drop(handshake)
	}
}

// mayCarry: whether a packet of a space may carry frames of a kind, from the other side.
func (c *Conn) mayCarry(place, kind int) bool {
	switch kind {
	case kindPadding, kindPing, kindAck, kindAckMarks, kindClose:
		return true
	case kindCrypto:
		return place != application
	case kindNewToken, kindShaken:
		return place == application && !c.server
	case kindRetireID:
		return false // this side has no other id than the one that is in use
	}
	return place == application
}

// takeAck: packets have arrived.
func (c *Conn) takeAck(place int, f frame.Frame) {
	delay := min(f.Delay, greatestTime) << c.exponent
	acked, lost, e := c.loss.Ack(place, f.Spans, delay, c.now)
	if e != api.OK {
		c.fail(codeProtocol)
		return
	}
	c.arrive(place, acked)
	c.lose(place, lost)
}

// takeCrypto: the handshake goes on.
func (c *Conn) takeCrypto(place int, f frame.Frame) {
	s := &c.spaces[place]
	if _, e := s.heard.Put(f.At, f.Data, false); e != api.OK {
		c.fail(codeBuffer)
		return
	}
	data, _ := s.heard.Read(api.MaxData)
	if c.shake.Feed(place, data) != api.OK {
		c.fail(codeHandshake)
		return
	}
	c.progress()
}

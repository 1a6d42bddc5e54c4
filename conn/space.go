package conn

import (
	"slices"

	"turnpike/api"
	"turnpike/guard"
	"turnpike/header"
	"turnpike/reasm"
	"turnpike/sendq"
	"turnpike/spans"
)

// The spaces of packet numbers. The first two are the levels of the handshake, too.
const (
	initial = iota
	handshake
	application
	spaceCount
)

const (
	mostSpans = 32   // of packet numbers that came
	mostOut   = 4096 // packets of a space, by layer 11
	none      = -1
)

// opening: how the packets of a space are opened.
type opening func(packet []byte, at, high int) (number int, payload []byte, e api.Errno)

// parcel: what a packet carries, known by what is to be done about it.
type parcel struct {
	arrived, lost func()
	elicits       bool
}

// space: the packets of one space of numbers, both ways.
type space struct {
	open opening // nil, while there are no keys
	over bool    // the keys are gone for good
	keys guard.Keys

	received *spans.Set
	high     int // the greatest number that came
	highAt   int // when
	ackDue   bool

	next  int            // the number of the next packet
	acked int            // the greatest number that the other side has told to have
	sent  map[int]parcel // the packets that are out, as layer 11 knows them
	quiet int            // how many packets in a row have asked for no acknowledgement
	probe bool           // a packet is to go that asks for one, whatever the window says

	heard *reasm.Buffer // what the handshake says here; nil in the last space
	say   *sendq.Queue
}

// begun: whether the space has, or had, keys.
func (s *space) begun() bool { return s.open != nil || s.over }

// beginSpaces: three spaces, and the first one's keys.
func (c *Conn) beginSpaces() {
	for i := range c.spaces {
		s := &c.spaces[i]
		s.high, s.acked, s.sent = none, none, map[int]parcel{}
		s.received, _ = spans.New(mostSpans)
		if i != application {
			s.heard, _ = reasm.New(api.MaxData)
			s.say, _ = sendq.New(api.MaxRoom)
		}
	}
	client, server, _ := guard.Secrets(c.first)
	c.openLong(initial, client, server)
}

// sides: this side's secret, and the other's.
func (c *Conn) sides(client, server []byte) (ours, theirs []byte) {
	if c.server {
		return server, client
	}
	return client, server
}

// longOpener opens the packets of a space whose keys stay.
type longOpener struct{ keys guard.Keys }

func (o longOpener) open(packet []byte, at, high int) (int, []byte, api.Errno) {
	number, payload, _, e := guard.Unprotect(o.keys, packet, at, high)
	return number, payload, e
}

// openLong: a space of long packets has keys from now on.
func (c *Conn) openLong(place int, client, server []byte) {
	ours, theirs := c.sides(client, server)
	s := &c.spaces[place]
	s.keys, _ = guard.Make(ours)
	keys, _ := guard.Make(theirs)
	s.open = longOpener{keys}.open
}

// turn: where the change of the last space's keys stands.
type turn struct {
	opener *guard.Opener
	secret []byte // this side's present one
	phase  int
}

// openShort: the last space has keys from now on.
func (c *Conn) openShort(client, server []byte) {
	ours, theirs := c.sides(client, server)
	s := &c.spaces[application]
	s.keys, _ = guard.Make(ours)
	opener, _ := guard.NewOpener(theirs)
	s.open = opener.Open
	c.turn = turn{opener: opener, secret: ours}
}

// followTurn: where the other side has changed its keys, this side does.
func (c *Conn) followTurn() {
	if c.turn.opener.Phase() == c.turn.phase {
		return
	}
	c.turn.phase = c.turn.opener.Phase()
	c.turn.secret, _ = guard.Next(c.turn.secret)
	s := &c.spaces[application]
	keys, _ := guard.Make(c.turn.secret)
	keys.Hp = s.keys.Hp // the number's mask stays that of the first secret
	s.keys = keys
}

// drop: a space is over, what it had to say has been heard.
func (c *Conn) drop(place int) {
	c.loss.Drop(place)
	c.spaces[place] = space{over: true}
}

// lose: packets are lost.
func (c *Conn) lose(place int, numbers []int) {
	s := &c.spaces[place]
	for _, n := range numbers {
		p := s.sent[n]
		delete(s.sent, n)
		p.lost()
	}
}

// arrive: packets have arrived.
func (c *Conn) arrive(place int, numbers []int) {
	s := &c.spaces[place]
	for _, n := range numbers {
		p := s.sent[n]
		delete(s.sent, n)
		s.acked = max(s.acked, n)
		p.arrived()
	}
}

// ask: a probe is to go, with what the oldest packet carries that has been waited for in vain.
func (s *space) ask() {
	s.probe = true
	oldest := none
	for n, p := range s.sent {
		if p.elicits && (oldest == none || n < oldest) {
			oldest = n
		}
	}
	if oldest != none {
		s.sent[oldest].lost()
	}
}

// spaceOf: the space of a kind of packets; none, if they are not read here.
func spaceOf(kind int) int {
	return slices.Index([]int{header.Initial, header.Handshake, header.Short}, kind)
}

// kindOf: the kind of a space's packets.
func kindOf(place int) int {
	return [spaceCount]int{header.Initial, header.Handshake, header.Short}[place]
}

package conn_test

import (
	"bytes"
	"slices"
	"testing"

	"turnpike/api"
	"turnpike/conn"
)

// The two sides, as places.
const (
	client = 0
	server = 1
)

// configOf: a config of a side that fits the other's.
func configOf(side int) conn.Config {
	c := conn.Config{
		Private: 99, Protos: []string{"h3", "other"}, First: []byte("firstcid"), Own: []byte("clientid"),
		Room: 1000, All: 4000, Both: 3, One: 2,
	}
	c.Peer = c.First
	if side == server {
		c.Server, c.Private, c.Own, c.Peer = true, 1234, []byte("serverid"), []byte("clientid")
	}
	c.Random[5] = byte(side + 1)
	return c
}

// roomy: the same bytes with spare room behind them, that is filled.
func roomy(b []byte) []byte {
	whole := append(slices.Clone(b), bytes.Repeat([]byte{0x99}, 40)...)
	return whole[:len(b)]
}

// spoil writes over bytes and their spare room.
func spoil(b []byte) {
	b = b[:cap(b)]
	for i := range b {
		b[i] ^= 0xff
	}
}

// flight: a datagram that is under way.
type flight struct {
	to, at int
	data   []byte
}

// net carries datagrams between a client and a server, and tells the time. All that it hands in and is told it writes over behind each call.
type net struct {
	t     *testing.T
	sides [2]*conn.Conn
	now   int
	wire  []flight
	// fate tells when a datagram arrives, how often, if at all: each time in ticks from now
	fate func(to int, data []byte) []int
	sent [2]int // how many datagrams went to each side
	log  []byte // all that was sent, in order
}

// aTickLater: the fate of all datagrams where nothing gets lost.
func aTickLater(int, []byte) []int { return []int{1} }

// nowhere: the fate of all datagrams where nothing comes across.
func nowhere(int, []byte) []int { return nil }

// newSide: a connection that must come to be.
func newSide(t *testing.T, c conn.Config, now int) *conn.Conn {
	t.Helper()
	x, e := conn.New(c, now)
	if e != api.OK || x == nil || x.State() != conn.Shaking || x.Proto() != "" || len(x.Events()) != 0 {
		t.Fatalf("New: %v, %d", x, e)
	}
	return x
}

// newNet: two sides by their configs, at the time 0.
func newNet(t *testing.T, c, s conn.Config) *net {
	t.Helper()
	return &net{t: t, sides: [2]*conn.Conn{newSide(t, c, 0), newSide(t, s, 0)}, fate: aTickLater}
}

// plainNet: two sides by the usual configs, changed alike.
func plainNet(t *testing.T, changes ...func(c *conn.Config)) *net {
	t.Helper()
	c, s := configOf(client), configOf(server)
	for _, change := range changes {
		change(&c)
		change(&s)
	}
	return newNet(t, c, s)
}

// openNet: the same, when both are open and have nothing more to say.
func openNet(t *testing.T, changes ...func(c *conn.Config)) *net {
	t.Helper()
	n := plainNet(t, changes...)
	n.rest()
	n.wantOpen()
	n.sides[client].Events()
	n.sides[server].Events()
	return n
}

// send: what both have to say goes on its way.
func (n *net) send() {
	n.t.Helper()
	n.sendFrom(client)
	n.sendFrom(server)
}

// sendFrom: what a side has to say goes on its way.
func (n *net) sendFrom(side int) {
	n.t.Helper()
	list := n.sides[side].Send(n.now)
	for _, d := range list {
		n.checkDatagram(side, d)
		n.sent[1-side]++
		n.log = append(n.log, d...)
		for _, delay := range n.fate(1-side, d) {
			n.wire = append(n.wire, flight{to: 1 - side, at: n.now + delay, data: roomy(d)})
		}
		spoil(d)
	}
	if more := n.sides[side].Send(n.now); len(more) != 0 {
		n.t.Fatalf("P12.2: behind a Send there are %d datagrams more", len(more))
	}
}

// checkDatagram: P12.2, and what the chapter says of a client's initial packets.
func (n *net) checkDatagram(from int, d []byte) {
	n.t.Helper()
	if len(d) < 1 || len(d) > 1200 {
		n.t.Fatalf("P12.2: a datagram of %d bytes", len(d))
	}
	if from == client && d[0]&0xf0 == 0xc0 && len(d) != 1200 {
		n.t.Fatalf("a client's datagram with an initial packet has %d bytes", len(d))
	}
}

// next: the next time at which something comes or is to be told; false, if there is none.
func (n *net) next() (int, bool) {
	at, ok := 0, false
	sooner := func(x int) {
		if !ok || x < at {
			at, ok = x, true
		}
	}
	for _, f := range n.wire {
		sooner(f.at)
	}
	for _, x := range n.sides {
		if x, there := x.Timer(); there {
			sooner(x)
		}
	}
	return max(at, n.now), ok
}

// step: what is to go goes, the next time comes, and what it brings; false, if nothing will happen any more.
func (n *net) step() bool {
	n.t.Helper()
	n.send()
	at, ok := n.next()
	if !ok {
		return false
	}
	n.now = at
	n.deliver()
	for _, x := range n.sides {
		if t, there := x.Timer(); there && t <= n.now {
			x.Tick(n.now)
		}
	}
	return true
}

// deliver: what has arrived is received, in its order.
func (n *net) deliver() {
	n.t.Helper()
	var left []flight
	for _, f := range n.wire {
		if f.at > n.now {
			left = append(left, f)
		} else {
			n.receive(f.to, f.data)
		}
	}
	n.wire = left
}

// receive: a datagram comes to a side.
func (n *net) receive(side int, data []byte) {
	n.t.Helper()
	before := slices.Clone(data[:cap(data)])
	n.sides[side].Receive(data, n.now)
	if !bytes.Equal(data[:cap(data)], before) {
		n.t.Fatalf("P12.7: a datagram was changed")
	}
	spoil(data)
}

// rest: steps, till nothing is under way and no side will say anything for long.
func (n *net) rest() {
	n.t.Helper()
	for range 100000 {
		n.send()
		if len(n.wire) == 0 && !n.soon() {
			return
		}
		n.step()
	}
	n.t.Fatalf("it does not come to rest")
}

// soon: whether the timer of a side that is not closing is near.
func (n *net) soon() bool {
	for _, x := range n.sides {
		if at, ok := x.Timer(); ok && x.State() < conn.Closing && at-n.now < 5000 {
			return true
		}
	}
	return false
}

// wantEvents: just these have happened at a side since the last time.
func (n *net) wantEvents(side int, want ...conn.Event) {
	n.t.Helper()
	got := n.sides[side].Events()
	if !slices.Equal(got, want) {
		n.t.Fatalf("side %d: events %v; want %v", side, got, want)
	}
	got = got[:cap(got)]
	for i := range got {
		got[i] = conn.Event{Kind: 77, ID: 77, Code: 77}
	}
	if again := n.sides[side].Events(); len(again) != 0 {
		n.t.Fatalf("side %d: events %v; want none", side, again)
	}
}

// wantStates: the states of both.
func (n *net) wantStates(c, s int) {
	n.t.Helper()
	if n.sides[client].State() != c || n.sides[server].State() != s {
		n.t.Fatalf("the states are %d, %d; want %d, %d", n.sides[client].State(), n.sides[server].State(), c, s)
	}
}

// wantOpen: both are open.
func (n *net) wantOpen() {
	n.t.Helper()
	n.wantStates(conn.Open, conn.Open)
	if c, s := n.sides[client].Proto(), n.sides[server].Proto(); c != "h3" || s != "h3" {
		n.t.Fatalf("the protos are %q, %q", c, s)
	}
}

// open: a side opens a stream of this number.
func (n *net) open(side int, both bool, want int) {
	n.t.Helper()
	if id, e := n.sides[side].Open(both); id != want || e != api.OK {
		n.t.Fatalf("side %d: Open: %d, %d; want %d", side, id, e, want)
	}
}

// noneMore: a side may open no stream of that kind.
func (n *net) noneMore(side int, both bool) {
	n.t.Helper()
	if id, e := n.sides[side].Open(both); id != 0 || e != api.ErrLimit {
		n.t.Fatalf("side %d: Open: %d, %d; want ErrLimit", side, id, e)
	}
}

// write: a side writes a text, of which so much is taken.
func (n *net) write(side, id int, text string, want int) {
	n.t.Helper()
	data := roomy([]byte(text))
	before := slices.Clone(data[:cap(data)])
	got, e := n.sides[side].Write(id, data)
	if got != want || e != api.OK || !bytes.Equal(data[:cap(data)], before) {
		n.t.Fatalf("side %d: Write on %d: %d, %d; want %d", side, id, got, e, want)
	}
	spoil(data)
}

// refuse: what a side asks is answered by this error.
func (n *net) refuse(got, want api.Errno) {
	n.t.Helper()
	if got != want {
		n.t.Fatalf("error %d; want %d", got, want)
	}
}

// read: a side reads up to so many bytes, and has that text, and the end or not.
func (n *net) read(side, id, size int, want string, wantEnd bool) {
	n.t.Helper()
	data, end, e := n.sides[side].Read(id, size)
	if string(data) != want || end != wantEnd || e != api.OK {
		n.t.Fatalf("side %d: Read on %d: %q, %t, %d; want %q, %t", side, id, data, end, e, want, wantEnd)
	}
	spoil(data)
}

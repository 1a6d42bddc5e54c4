package conn_test

import (
	"slices"
	"testing"

	"turnpike/api"
	"turnpike/conn"
	"turnpike/frame"
	"turnpike/guard"
	"turnpike/header"
	"turnpike/params"
	"turnpike/shake"
)

// The spaces of packet numbers.
const (
	first = iota
	second
	third
)

// said: a frame that was heard, and the space of its packet.
type said struct {
	place int
	frame.Frame
}

// rogue: a side that says whatever it likes, to a connection of the other side.
type rogue struct {
	t    *testing.T
	side int
	x    *conn.Conn // whom it speaks to
	now  int

	own, peer []byte
	shake     *shake.Shake
	keys      [3]guard.Keys // by which it protects
	open      [3]func(packet []byte, at, high int) (int, []byte, api.Errno)
	next      [3]int
	high      [3]int
	phase     byte
	secret    []byte // of the third space, its own
	opener    *guard.Opener
}

// rogueParams: what a rogue tells of itself, where it tells nothing else.
func rogueParams() params.Params {
	p := params.Usual()
	p.MaxData, p.BidiLocal, p.BidiRemote, p.Uni, p.StreamsBidi, p.StreamsUni = 1<<20, 1<<16, 1<<16, 1<<16, 5, 5
	return p
}

// newRogue: a rogue that plays a side, with these params as bytes, against a connection by its config.
func newRogue(t *testing.T, side int, told []byte, victim conn.Config) *rogue {
	t.Helper()
	c := configOf(side)
	g := &rogue{t: t, side: side, x: newSide(t, victim, 0), own: c.Own, peer: victim.Own, high: [3]int{-1, -1, -1}}
	if side == client {
		g.peer = c.First
	}
	var e api.Errno
	g.shake, e = shake.New(shake.Config{Server: c.Server, Random: c.Random, Private: c.Private, Protos: c.Protos, Params: told})
	if e != api.OK {
		t.Fatalf("shake.New: %d", e)
	}
	a, b, _ := guard.Secrets(c.First)
	g.take(first, a, b)
	return g
}

// take: the keys of a space.
func (g *rogue) take(place int, c, s []byte) {
	ours, theirs := c, s
	if g.side == server {
		ours, theirs = s, c
	}
	g.keys[place], _ = guard.Make(ours)
	keys, _ := guard.Make(theirs)
	g.open[place] = func(packet []byte, at, high int) (int, []byte, api.Errno) {
		n, payload, _, e := guard.Unprotect(keys, packet, at, high)
		return n, payload, e
	}
	if place == third {
		o, _ := guard.NewOpener(theirs)
		g.open[place] = o.Open
		g.secret, g.opener = ours, o
	}
}

// known: the keys that are known by now.
func (g *rogue) known() {
	if s, ok := g.shake.Hand(); ok && g.open[second] == nil {
		g.take(second, s.Client, s.Server)
	}
	if s, ok := g.shake.App(); ok && g.open[third] == nil {
		g.take(third, s.Client, s.Server)
	}
}

// encode: frames one behind the other.
func encode(t *testing.T, frames ...frame.Frame) []byte {
	t.Helper()
	var b []byte
	for _, f := range frames {
		one, e := frame.Encode(f)
		if e != api.OK {
			t.Fatalf("Encode(%+v): %d", f, e)
		}
		b = append(b, one...)
	}
	return b
}

// packet: a packet with any payload.
func (g *rogue) packet(place int, payload []byte) []byte {
	g.t.Helper()
	for len(payload) < 4 {
		payload = append(payload, 0)
	}
	const width = 2
	h := header.Header{Kind: []int{header.Initial, header.Handshake, header.Short}[place], Dst: g.peer, Src: g.own, Length: width + len(payload) + 16}
	head, e := header.Build(h, width)
	if e != api.OK {
		g.t.Fatalf("Build: %d", e)
	}
	if place == third {
		head[0] |= g.phase << 2
	}
	p, e := guard.Protect(g.keys[place], head, g.next[place], width, payload)
	if e != api.OK {
		g.t.Fatalf("Protect: %d", e)
	}
	g.next[place]++
	return p
}

// say: frames, in a packet of a space.
func (g *rogue) say(place int, frames ...frame.Frame) {
	g.t.Helper()
	g.x.Receive(g.packet(place, encode(g.t, frames...)), g.now)
}

// hear: what the connection has to say.
func (g *rogue) hear() []said {
	g.t.Helper()
	var list []said
	for _, d := range g.x.Send(g.now) {
		pieces, e := header.Split(d, 8)
		if e != api.OK || len(d) > 1200 {
			g.t.Fatalf("Split: %d, %d bytes", e, len(d))
		}
		for _, p := range pieces {
			list = append(list, g.hearPacket(d[p.From:p.End], p.At-p.From, p.Header)...)
		}
	}
	return list
}

// hearPacket: what a packet says; what it says of the handshake is fed to the rogue's.
func (g *rogue) hearPacket(packet []byte, at int, h header.Header) []said {
	g.t.Helper()
	place := slices.Index([]int{header.Initial, header.Handshake, header.Short}, h.Kind)
	if place < 0 {
		g.t.Fatalf("a packet of another kind: %+v", h)
	}
	if g.open[place] == nil {
		return nil
	}
	n, payload, e := g.open[place](packet, at, g.high[place])
	if e != api.OK || n <= g.high[place] {
		g.t.Fatalf("a packet that can't be read: %d, number %d behind %d", e, n, g.high[place])
	}
	g.high[place] = n
	if place == first && g.side == client {
		g.peer = h.Src
	}
	frames, _, e := frame.Decode(payload)
	if e != api.OK {
		g.t.Fatalf("Decode: %d", e)
	}
	var list []said
	for _, f := range frames {
		list = append(list, said{place, f})
		if f.Kind == 6 {
			g.shake.Feed(place, f.Data)
			g.known()
		}
	}
	return list
}

// speak: what the handshake has to say, by the rogue.
func (g *rogue) speak() {
	g.t.Helper()
	for _, f := range g.shake.Out() {
		g.say(f.Level, frame.Frame{Kind: 6, Data: f.Data})
	}
}

// openRogue: a rogue whose handshake is done, with a connection that is open, and that has said what it has to.
func openRogue(t *testing.T, side int, changes ...func(c *conn.Config)) *rogue {
	t.Helper()
	told, _ := params.Encode(rogueParams(), side == server)
	victim := configOf(1 - side)
	for _, change := range changes {
		change(&victim)
	}
	g := newRogue(t, side, told, victim)
	for range 3 {
		g.speak()
		g.hear()
	}
	if g.x.State() != conn.Open || g.x.Proto() != "h3" {
		t.Fatalf("side %d: the state is %d", side, g.x.State())
	}
	if l := g.x.Events(); len(l) != 1 || l[0] != (conn.Event{Kind: conn.Ready}) {
		t.Fatalf("side %d: events %v", side, l)
	}
	if side == server {
		g.say(third, frame.Frame{Kind: 30})
		g.hear()
	}
	return g
}

// wantClosed: the connection has been closed by it, once, and says so.
func (g *rogue) wantClosed(what string) {
	g.t.Helper()
	if g.x.State() != conn.Closing {
		g.t.Fatalf("P12.5: %s: the state is %d", what, g.x.State())
	}
	l := g.x.Events()
	if len(l) == 0 || l[len(l)-1].Kind != conn.Ended || l[len(l)-1].Code < 0 {
		g.t.Fatalf("%s: events %v", what, l)
	}
	heard := g.hear()
	if !slices.ContainsFunc(heard, func(s said) bool { return s.Kind == 28 && s.Code == l[len(l)-1].Code }) {
		g.t.Fatalf("%s: it says %v", what, heard)
	}
	if more := g.x.Events(); len(more) != 0 {
		g.t.Fatalf("%s: more events: %v", what, more)
	}
}

// wantOpen: the connection is open still.
func (g *rogue) wantOpen(what string) {
	g.t.Helper()
	if g.x.State() != conn.Open {
		g.t.Fatalf("%s: the state is %d", what, g.x.State())
	}
}

// bytesOf: so many bytes.
func bytesOf(n int) []byte { return make([]byte, n) }

// stream: a stream frame.
func stream(id, at, size int, fin bool) frame.Frame {
	return frame.Frame{Kind: 8, ID: id, At: at, Data: bytesOf(size), Fin: fin}
}

// theirs: the number of the rogue's stream at a place of its kind.
func theirs(side, place int, both bool) int {
	id := place<<2 | side
	if !both {
		id |= 2
	}
	return id
}

// P12.5: frames that can be: the connection stays open; and those that cannot: it is closed by the last of them, not ahead of it.
func TestFramesThatCannotBe(t *testing.T) {
	for _, side := range []int{client, server} {
		other := 1 - side
		mine, one := theirs(side, 0, true), theirs(side, 0, false)
		yours, yourOne := theirs(other, 0, true), theirs(other, 0, false)
		for _, c := range []struct {
			what   string
			closes bool
			frames []frame.Frame
		}{
			{"Room on a stream", false, []frame.Frame{stream(mine, 0, 1000, false)}},
			{"more than Room on a stream", true, []frame.Frame{stream(mine, 0, 1001, false)}},
			{"the last byte of Room", false, []frame.Frame{stream(mine, 999, 1, true)}},
			{"a byte behind Room", true, []frame.Frame{stream(mine, 1000, 1, false)}},
			{"the end at Room", false, []frame.Frame{stream(mine, 1000, 0, true)}},
			{"the end behind Room", true, []frame.Frame{stream(mine, 1001, 0, true)}},
			{"a reset at Room", false, []frame.Frame{{Kind: 4, ID: mine, N: 1000}}},
			{"a reset behind Room", true, []frame.Frame{{Kind: 4, ID: mine, N: 1001}}},
			{"Room on a stream of one way", false, []frame.Frame{stream(one, 0, 1000, false)}},
			{"more than Room on a stream of one way", true, []frame.Frame{stream(one, 0, 1000, false), stream(one, 1000, 1, false)}},
			{"a far place", true, []frame.Frame{stream(mine, api.MaxNum-5, 5, false)}},
			{"the last stream that may be", false, []frame.Frame{stream(theirs(side, 2, true), 0, 1, false)}},
			{"one stream too many", true, []frame.Frame{stream(theirs(side, 3, true), 0, 1, false)}},
			{"the last stream of one way", false, []frame.Frame{stream(theirs(side, 1, false), 0, 1, false)}},
			{"one stream of one way too many", true, []frame.Frame{stream(theirs(side, 2, false), 0, 1, false)}},
			{"the greatest number", true, []frame.Frame{stream(api.MaxNum&^3|side, 0, 1, false)}},
			{"one reset too many", true, []frame.Frame{{Kind: 4, ID: theirs(side, 3, true)}}},
			{"one stop too many", true, []frame.Frame{{Kind: 5, ID: theirs(side, 3, true)}}},
			{"one limit too many", true, []frame.Frame{{Kind: 17, ID: theirs(side, 3, true)}}},
			{"one block too many", true, []frame.Frame{{Kind: 21, ID: theirs(side, 3, true)}}},
			{"two ends", true, []frame.Frame{stream(mine, 0, 5, true), stream(mine, 0, 6, true)}},
			{"the same end twice", false, []frame.Frame{stream(mine, 0, 5, true), stream(mine, 5, 0, true), stream(mine, 0, 5, true)}},
			{"bytes behind the end", true, []frame.Frame{stream(mine, 0, 5, true), stream(mine, 5, 1, false)}},
			{"an end below what came", true, []frame.Frame{stream(mine, 3, 5, false), stream(mine, 0, 4, true)}},
			{"a reset below what came", true, []frame.Frame{stream(mine, 3, 5, false), {Kind: 4, ID: mine, N: 7}}},
			{"a reset at what came", false, []frame.Frame{stream(mine, 3, 5, false), {Kind: 4, ID: mine, N: 8}}},
			{"a reset with another end", true, []frame.Frame{stream(mine, 3, 5, true), {Kind: 4, ID: mine, N: 9}}},
			{"two resets alike", false, []frame.Frame{{Kind: 4, ID: mine, N: 8, Code: 1}, {Kind: 4, ID: mine, N: 8, Code: 2}}},
			{"two resets", true, []frame.Frame{{Kind: 4, ID: mine, N: 8}, {Kind: 4, ID: mine, N: 9}}},
			{"bytes at the end of a reset", false, []frame.Frame{{Kind: 4, ID: mine, N: 8}, stream(mine, 3, 5, true)}},
			{"bytes behind a reset", true, []frame.Frame{{Kind: 4, ID: mine, N: 8}, stream(mine, 3, 6, false)}},
			{"an end ahead of a reset's", true, []frame.Frame{{Kind: 4, ID: mine, N: 8}, stream(mine, 3, 4, true)}},
			{"a stream that is not there", true, []frame.Frame{stream(yours, 0, 1, false)}},
			{"a reset of one that is not there", true, []frame.Frame{{Kind: 4, ID: yours}}},
			{"a stop of one that is not there", true, []frame.Frame{{Kind: 5, ID: yours}}},
			{"a limit of one that is not there", true, []frame.Frame{{Kind: 17, ID: yours, N: 5}}},
			{"a block of one that is not there", true, []frame.Frame{{Kind: 21, ID: yours, N: 5}}},
			{"one of one way that is not there", true, []frame.Frame{{Kind: 5, ID: yourOne}}},
			{"a stop of its own stream", false, []frame.Frame{{Kind: 5, ID: mine}}},
			{"a limit of its own stream", false, []frame.Frame{{Kind: 17, ID: mine, N: 7}}},
			{"a stop of its own stream of one way", true, []frame.Frame{{Kind: 5, ID: one}}},
			{"a limit of its own stream of one way", true, []frame.Frame{{Kind: 17, ID: one, N: 7}}},
			{"a block of its own stream of one way", false, []frame.Frame{{Kind: 21, ID: one, N: 7}}},
			{"a handshake that is over", true, []frame.Frame{{Kind: 6, Data: []byte{1}}}},
			{"an id that is given back", true, []frame.Frame{{Kind: 25, N: 0}}},
			{"an acknowledgement of what was never sent", true, []frame.Frame{{Kind: 2, Spans: []api.Span{{From: 0, To: 999}}}}},
			{"an acknowledgement with marks", true, []frame.Frame{{Kind: 3, Spans: []api.Span{{From: 999, To: 999}}}}},
			{"a token", side == client, []frame.Frame{{Kind: 7, Data: []byte("token")}}},
			{"a handshake that is done", side == client, []frame.Frame{{Kind: 30}}},
			{"what says nothing", false, []frame.Frame{{Kind: 0, N: 9}, {Kind: 1}, {Kind: 20, N: 1}, {Kind: 22, N: 1}, {Kind: 23, N: 1}}},
			{"limits", false, []frame.Frame{{Kind: 16, N: 0}, {Kind: 16, N: api.MaxNum}, {Kind: 18, N: 1 << 60}, {Kind: 19, N: 0}}},
			{"paths and ids", false, []frame.Frame{{Kind: 26, Data: bytesOf(8)}, {Kind: 27, Data: bytesOf(8)}, {Kind: 24, N: 1, Cid: bytesOf(8), Data: bytesOf(16)}}},
		} {
			// in packets of their own, and all in one
			g := openRogue(t, side)
			for i, f := range c.frames {
				g.wantOpen(c.what)
				g.say(third, f)
				if i < len(c.frames)-1 {
					g.hear()
				}
			}
			h := openRogue(t, side)
			h.say(third, c.frames...)
			if c.closes {
				g.wantClosed(c.what)
				h.wantClosed(c.what)
			} else {
				g.wantOpen(c.what)
				h.wantOpen(c.what)
			}
		}
	}
}

// P12.5: All of all streams together, and a byte more, counted with the gaps; what was read counts no more.
func TestAllTogether(t *testing.T) {
	small := func(c *conn.Config) { c.All = 2500 }
	for _, side := range []int{client, server} {
		a, b, c := theirs(side, 0, true), theirs(side, 1, true), theirs(side, 0, false)
		g := openRogue(t, side, small)
		g.say(third, stream(a, 0, 1000, false), stream(b, 999, 1, false))
		g.say(third, stream(c, 0, 500, false))
		g.wantOpen("All")
		g.say(third, stream(c, 500, 0, false))
		g.wantOpen("All")
		g.say(third, stream(c, 500, 1, false))
		g.wantClosed("more than All")

		g = openRogue(t, side, small)
		g.say(third, stream(a, 0, 1000, false), stream(b, 999, 1, false))
		if data, _, _ := g.x.Read(a, 300); len(data) != 300 {
			t.Fatalf("Read: %d bytes", len(data))
		}
		g.say(third, stream(c, 0, 800, false))
		g.wantOpen("All, when 300 are read")
		g.say(third, stream(a, 1000, 1, false))
		g.wantClosed("more than All")

		g = openRogue(t, side, small)
		g.say(third, stream(a, 0, 1000, false), stream(b, 0, 1000, false))
		g.say(third, frame.Frame{Kind: 4, ID: a, N: 1000})
		g.say(third, stream(c, 0, 1000, false))
		g.wantOpen("what was reset counts no more")
		g.say(third, frame.Frame{Kind: 4, ID: theirs(side, 1, false), N: 501})
		g.wantClosed("a reset beyond All")

		g = openRogue(t, side, small)
		g.say(third, stream(a, 0, 600, false), stream(b, 0, 1000, false))
		g.x.Read(a, 300)
		g.say(third, frame.Frame{Kind: 4, ID: a, N: 1000})
		g.say(third, stream(c, 0, 1000, false), stream(theirs(side, 1, false), 0, 500, false))
		g.wantOpen("what was read and what was reset counts no more")
		g.say(third, stream(theirs(side, 1, false), 500, 1, false))
		g.wantClosed("more than All")
	}
}

// P12.5: packets of the handshake carry no other frames than these.
func TestFramesOfTheHandshake(t *testing.T) {
	for _, place := range []int{first, second} {
		for kind, f := range map[int]frame.Frame{
			0: {Kind: 0, N: 20}, 1: {Kind: 1}, 4: {Kind: 4}, 5: {Kind: 5}, 7: {Kind: 7, Data: []byte{1}}, 8: {Kind: 8, Data: []byte{1}}, 16: {Kind: 16}, 17: {Kind: 17},
			18: {Kind: 18}, 19: {Kind: 19}, 20: {Kind: 20}, 21: {Kind: 21}, 22: {Kind: 22}, 23: {Kind: 23}, 24: {Kind: 24, Cid: bytesOf(8), Data: bytesOf(16)},
			25: {Kind: 25}, 26: {Kind: 26, Data: bytesOf(8)}, 27: {Kind: 27, Data: bytesOf(8)}, 29: {Kind: 29}, 30: {Kind: 30},
		} {
			g := newRogue(t, client, nil, configOf(server))
			g.speak()
			g.hear()
			g.say(place, f)
			if kind > 1 {
				g.wantClosed("a frame in a packet of the handshake")
			} else if g.x.State() != conn.Shaking {
				t.Fatalf("kind %d in the space %d: the state is %d", kind, place, g.x.State())
			}
		}
	}
}

// P12.5: payloads that are no frames, and none at all.
func TestPayloadsThatCannotBeRead(t *testing.T) {
	for _, side := range []int{client, server} {
		for _, payload := range [][]byte{{0x1f, 0, 0, 0}, {0x40, 0, 0, 0}, {10, 0, 0x44, 0}, {1, 1, 1, 2}, {18, 0xff, 0xff, 0xff, 0xff, 0xff, 0xff, 0xff, 0xff}} {
			g := openRogue(t, side)
			g.x.Receive(g.packet(third, payload), g.now)
			g.wantClosed("what is no frame")
		}
	}
}

// P12.5: what layer 10 refuses, and params that layer 9 refuses.
func TestWrongHandshake(t *testing.T) {
	told, _ := params.Encode(rogueParams(), false)
	g := newRogue(t, client, told, configOf(server))
	g.say(first, frame.Frame{Kind: 6, Data: []byte{20, 0, 0, 0}})
	g.wantClosed("another message")

	g = newRogue(t, client, told, configOf(server))
	g.say(first, frame.Frame{Kind: 6, At: 1 << 20, Data: []byte{1}})
	g.wantClosed("a far place of the handshake")

	other := configOf(server)
	other.Protos = []string{"none"}
	g = newRogue(t, client, told, other)
	g.speak()
	g.wantClosed("no proto in common")

	for _, bad := range [][]byte{{1, 1, 0x1e, 1, 1, 0x1e}, {3, 2, 0x44, 0xaf}, {0, 1, 7}, {5}} {
		g = newRogue(t, client, bad, configOf(server))
		g.speak()
		g.wantClosed("wrong params")
		if g.x.Proto() != "" {
			t.Errorf("P12.3: Proto is %q", g.x.Proto())
		}
	}
	for _, bad := range [][]byte{{1, 1, 0x1e, 1, 1, 0x1e}, {2, 1, 7}, {5}} {
		g = newRogue(t, server, bad, configOf(client))
		g.hear()
		g.speak()
		g.wantClosed("wrong params of a server")
		if g.x.Proto() != "" {
			t.Errorf("P12.3: Proto is %q", g.x.Proto())
		}
	}

	g = newRogue(t, client, told, configOf(server))
	g.speak()
	g.hear()
	g.say(second, frame.Frame{Kind: 6, Data: append([]byte{20, 0, 0, 16}, bytesOf(16)...)})
	g.wantClosed("a finished that is not the right one")
}

// P12.3, P12.7: what a client says ahead of the end of its handshake is not taken: Ready comes first.
func TestAheadOfReady(t *testing.T) {
	told, _ := params.Encode(rogueParams(), false)
	g := newRogue(t, client, told, configOf(server))
	g.speak()
	g.hear()
	g.known()
	g.say(third, stream(0, 0, 5, true))
	if l := g.x.Events(); len(l) != 0 || g.x.State() != conn.Shaking || g.x.Proto() != "" {
		t.Fatalf("events %v, state %d, proto %q", l, g.x.State(), g.x.Proto())
	}
	g.speak()
	g.say(third, stream(0, 0, 5, true))
	l := g.x.Events()
	if !slices.Equal(l, []conn.Event{{Kind: conn.Ready}, {Kind: conn.Opened}}) || g.x.Proto() != "h3" {
		t.Fatalf("events %v, proto %q", l, g.x.Proto())
	}
}

// P12.5: what can be said of the streams that the connection opened, and what cannot.
func TestFramesOfTheOthersStreams(t *testing.T) {
	for _, side := range []int{client, server} {
		both, one := theirs(1-side, 0, true), theirs(1-side, 0, false)
		for _, c := range []struct {
			what   string
			closes bool
			frame  frame.Frame
		}{
			{"bytes", false, stream(both, 0, 1000, true)},
			{"too many bytes", true, stream(both, 0, 1001, false)},
			{"a reset", false, frame.Frame{Kind: 4, ID: both, N: 3}},
			{"a stop", false, frame.Frame{Kind: 5, ID: both}},
			{"a limit", false, frame.Frame{Kind: 17, ID: both, N: 3}},
			{"a block", false, frame.Frame{Kind: 21, ID: both, N: 3}},
			{"bytes on one that goes the other way", true, stream(one, 0, 0, false)},
			{"a reset of one that goes the other way", true, frame.Frame{Kind: 4, ID: one}},
			{"a block on one that goes the other way", true, frame.Frame{Kind: 21, ID: one}},
			{"a stop of one that goes the other way", false, frame.Frame{Kind: 5, ID: one}},
			{"a limit of one that goes the other way", false, frame.Frame{Kind: 17, ID: one, N: 3}},
			{"one that is not open", true, stream(both+4, 0, 1, false)},
			{"a stop of one that is not open", true, frame.Frame{Kind: 5, ID: one + 4}},
		} {
			g := openRogue(t, side)
			g.x.Open(true)
			g.x.Open(false)
			g.say(third, c.frame)
			if c.closes {
				g.wantClosed(c.what)
			} else {
				g.wantOpen(c.what)
			}
		}
	}
}

// P12.5, P12.4: what comes late on a stream that has been read to its end counts nothing, if it can be; if not, it closes.
func TestFramesBehindTheEnd(t *testing.T) {
	for _, side := range []int{client, server} {
		id := theirs(side, 0, true)
		for _, c := range []struct {
			what   string
			closes bool
			frame  frame.Frame
		}{
			{"the same", false, stream(id, 0, 5, true)},
			{"a piece", false, stream(id, 2, 1, false)},
			{"the end", false, stream(id, 5, 0, true)},
			{"nothing", false, stream(id, 5, 0, false)},
			{"a byte more", true, stream(id, 5, 1, false)},
			{"nothing, further on", true, stream(id, 6, 0, false)},
			{"an earlier end", true, stream(id, 0, 4, true)},
			{"a later end", true, stream(id, 0, 6, true)},
			{"a reset", false, frame.Frame{Kind: 4, ID: id, N: 5, Code: 8}},
			{"an earlier reset", true, frame.Frame{Kind: 4, ID: id, N: 4, Code: 8}},
			{"a later reset", true, frame.Frame{Kind: 4, ID: id, N: 6, Code: 8}},
			{"a block", false, frame.Frame{Kind: 21, ID: id, N: 9}},
		} {
			g := openRogue(t, side)
			g.say(third, stream(id, 0, 5, true))
			if data, end, e := g.x.Read(id, 9); len(data) != 5 || !end || e != api.OK {
				t.Fatalf("Read: %d bytes, %t, %d", len(data), end, e)
			}
			g.x.Events()
			g.say(third, c.frame)
			if c.closes {
				g.wantClosed(c.what)
				continue
			}
			g.wantOpen(c.what)
			if l := g.x.Events(); len(l) != 0 {
				t.Fatalf("%s: events %v", c.what, l)
			}
			if data, end, e := g.x.Read(id, 9); len(data) != 0 || !end || e != api.OK {
				t.Fatalf("%s: Read: %d bytes, %t, %d", c.what, len(data), end, e)
			}
		}
	}
}

// carried: how far the bytes on a stream have come, by all that was heard.
func carried(heard []said, id int) int {
	far := 0
	for _, s := range heard {
		if s.Kind == 8 && s.ID == id {
			far = max(far, s.At+len(s.Data))
		}
	}
	return far
}

// Flow control as the other side asks for it: no byte goes beyond its limits, of a stream, of all together, of streams; more goes as it says so, a lesser limit counts nothing.
func TestLimitsOfTheOtherSide(t *testing.T) {
	for _, side := range []int{client, server} {
		p := params.Usual()
		p.MaxData, p.BidiLocal, p.BidiRemote, p.Uni, p.StreamsBidi, p.StreamsUni = 100, 30, 50, 40, 1, 1
		told, _ := params.Encode(p, side == server)
		g := newRogue(t, side, told, configOf(1-side))
		for range 3 {
			g.speak()
			g.hear()
		}
		g.wantOpen("the handshake")
		mine, yours, one := theirs(side, 0, true), theirs(1-side, 0, true), theirs(1-side, 0, false)
		g.say(third, stream(mine, 0, 1, false))
		for _, both := range []bool{true, false} {
			if _, e := g.x.Open(both); e != api.OK {
				t.Fatalf("Open: %d", e)
			}
			if _, e := g.x.Open(both); e != api.ErrLimit {
				t.Fatalf("Open: %d", e)
			}
		}
		var heard []said
		far := func(a, b, c int) {
			t.Helper()
			heard = append(heard, g.hear()...)
			if x, y, z := carried(heard, mine), carried(heard, yours), carried(heard, one); x != a || y != b || z != c {
				t.Fatalf("side %d: it went up to %d, %d, %d; want %d, %d, %d", side, x, y, z, a, b, c)
			}
		}
		g.x.Write(mine, bytesOf(1000))
		far(30, 0, 0)
		g.x.Write(yours, bytesOf(1000))
		far(30, 50, 0)
		g.x.Write(one, bytesOf(1000))
		far(30, 50, 20) // all of them together
		g.say(third, frame.Frame{Kind: 16, N: 90}, frame.Frame{Kind: 17, ID: mine, N: 10})
		far(30, 50, 20)
		g.say(third, frame.Frame{Kind: 16, N: 1000})
		far(30, 50, 40)
		g.say(third, frame.Frame{Kind: 17, ID: mine, N: 31}, frame.Frame{Kind: 17, ID: one, N: 1 << 60})
		far(31, 50, 919)
		g.say(third, frame.Frame{Kind: 18, N: 1}, frame.Frame{Kind: 19, N: 3})
		if id, e := g.x.Open(true); e != api.ErrLimit {
			t.Fatalf("Open: %d, %d", id, e)
		}
		for i := 1; i < 3; i++ {
			if id, e := g.x.Open(false); id != theirs(1-side, i, false) || e != api.OK {
				t.Fatalf("Open: %d, %d", id, e)
			}
		}
		g.say(third, frame.Frame{Kind: 19, N: 2})
		if id, e := g.x.Open(false); e != api.ErrLimit {
			t.Fatalf("Open: %d, %d", id, e)
		}
	}
}

// Windows are told in time: who reads all there is never keeps the other side waiting for a limit.
func TestWindowsAreTold(t *testing.T) {
	for _, side := range []int{client, server} {
		g := openRogue(t, side)
		id := theirs(side, 0, true)
		limit, all := 1000, 4000
		for at := 0; at < 20000; {
			more := min(250, limit-at, all-at)
			if more <= 0 {
				t.Fatalf("at %d: the limits are %d, %d", at, limit, all)
			}
			g.say(third, stream(id, at, more, false))
			at += more
			g.x.Read(id, 1<<20)
			for _, s := range g.hear() {
				switch s.Kind {
				case 16:
					all = max(all, s.N)
				case 17:
					limit = max(limit, s.N)
				}
			}
			if limit > at+1000 || all > at+4000 {
				t.Fatalf("P12.5: at %d the limits are %d, %d", at, limit, all)
			}
		}
		g.wantOpen("all of it")
	}
}

// P12.5, P12.6: behind what closes, nothing more of the packet counts, nor of those behind it: Ended is the last that is told.
func TestNothingBehindTheEnd(t *testing.T) {
	for _, end := range []frame.Frame{{Kind: 25}, {Kind: 28, Code: 3}, {Kind: 29, Code: 3}, {Kind: 4, ID: theirs(client, 0, true), N: 1 << 30}} {
		g := openRogue(t, client)
		g.say(third, stream(0, 0, 1, false), end, stream(4, 0, 1, false), frame.Frame{Kind: 4, ID: 0, N: 1}, frame.Frame{Kind: 29, Code: 9})
		g.say(third, stream(8, 0, 1, false))
		l := g.x.Events()
		if len(l) != 2 || l[0] != (conn.Event{Kind: conn.Opened}) || l[1].Kind != conn.Ended || end.Kind > 27 && l[1].Code != 3 {
			t.Fatalf("events %v", l)
		}
	}
}

// Packets that were sent to somebody else are not taken, though they could be read.
func TestSentToSomebodyElse(t *testing.T) {
	for _, side := range []int{client, server} {
		g := openRogue(t, side)
		own := g.peer
		for _, other := range []string{"somebody", "serverie", "clientie"} {
			g.peer = []byte(other)
			g.say(third, stream(theirs(side, 0, true), 0, 1, false))
		}
		if l := g.x.Events(); len(l) != 0 || len(g.hear()) != 0 {
			t.Fatalf("events %v", l)
		}
		g.peer = own
		g.say(third, stream(theirs(side, 0, true), 0, 1, false))
		if l := g.x.Events(); len(l) != 1 {
			t.Fatalf("events %v", l)
		}
	}
}

// A client's initial packets carry its Token, a server's none.
func TestToken(t *testing.T) {
	for _, token := range []string{"", "token"} {
		n := plainNet(t, func(c *conn.Config) { c.Token = []byte(token) })
		for side, want := range []string{token, ""} {
			for _, d := range n.sides[side].Send(0) {
				list, _ := header.Split(d, 8)
				if len(list) == 0 || list[0].Header.Kind != header.Initial || string(list[0].Header.Token) != want {
					t.Fatalf("side %d: %+v", side, list)
				}
				n.sides[1-side].Receive(d, 0)
			}
		}
	}
}

// P12.3: where nothing gets lost each packet counts when it comes first, also when all that is said has been acknowledged on both sides.
func TestEachPacketCounts(t *testing.T) {
	for _, side := range []int{client, server} {
		g := openRogue(t, side)
		id := theirs(side, 0, true)
		for i := range 300 {
			g.say(third, stream(id, i, 1, false))
			if data, _, e := g.x.Read(id, 9); len(data) != 1 || e != api.OK {
				t.Fatalf("packet %d: Read: %d bytes, %d", i, len(data), e)
			}
			g.hear()
			if i%3 > 0 {
				g.say(third, frame.Frame{Kind: 2, Spans: []api.Span{{From: 0, To: g.high[third]}}})
			}
		}
	}
}

// P12.3: packets that come twice are taken once; a stream's bytes stay those that came first.
func TestPacketsTwice(t *testing.T) {
	g := openRogue(t, client)
	p := g.packet(third, encode(t, frame.Frame{Kind: 8, Data: []byte("abc")}))
	g.x.Receive(p, 1)
	if d := g.x.Send(1); len(d) != 1 {
		t.Fatalf("%d datagrams", len(d))
	}
	g.x.Receive(p, 2)
	if d := g.x.Send(2); len(d) != 0 {
		t.Fatalf("what came twice is answered twice: %d datagrams", len(d))
	}
}

// A change of keys by the other side is followed (layer 8).
func TestChangeOfKeys(t *testing.T) {
	for _, side := range []int{client, server} {
		g := openRogue(t, side)
		id := theirs(side, 0, true)
		for turn := range 3 {
			hp := g.keys[third].Hp
			g.secret, _ = guard.Next(g.secret)
			g.keys[third], _ = guard.Make(g.secret)
			g.keys[third].Hp = hp
			g.phase = 1 - g.phase
			g.say(third, stream(id, turn, 1, false))
			if data, _, e := g.x.Read(id, 9); len(data) != 1 || e != api.OK {
				t.Fatalf("Read: %d bytes, %d", len(data), e)
			}
			if heard := g.hear(); len(heard) == 0 || g.opener.Phase() != int(g.phase) {
				t.Fatalf("turn %d: it says %v, in the phase %d", turn, heard, g.opener.Phase())
			}
		}
	}
}

// P12.2: who never hears that its acknowledgements arrive goes on for as long as it is asked to.
func TestNeverAcknowledged(t *testing.T) {
	g := openRogue(t, client)
	acks, pings := 0, 0
	for i := range 9000 {
		g.now = i
		g.say(third, frame.Frame{Kind: 1})
		for _, s := range g.hear() {
			switch s.Kind {
			case 1:
				pings++
			case 2:
				acks++
			}
		}
	}
	if acks != 9000 || pings < 9 || pings > 900 {
		t.Errorf("%d acknowledgements, %d pings", acks, pings)
	}
	g.wantOpen("many pings")
	g.say(third, frame.Frame{Kind: 2, Spans: []api.Span{{From: g.high[third] - 5000, To: g.high[third]}}})
	g.wantOpen("an acknowledgement at last")
	g.say(third, frame.Frame{Kind: 8, Data: []byte("still here"), Fin: true})
	if data, end, e := g.x.Read(0, 99); string(data) != "still here" || !end || e != api.OK {
		t.Errorf("Read: %q, %t, %d", data, end, e)
	}
}

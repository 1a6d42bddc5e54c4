package conn_test

import (
	"bytes"
	"math"
	"slices"
	"strings"
	"testing"

	"turnpike/api"
	"turnpike/conn"
)

// change: a config that is changed, and what New answers then.
type change struct {
	what string
	by   func(c *conn.Config)
	want api.Errno
}

// ofNumbers: a field set to numbers at its bounds, and beyond them.
func ofNumbers(what string, at func(c *conn.Config) *int, wrong api.Errno, right, beyond []int) []change {
	var list []change
	add := func(n int, want api.Errno) {
		list = append(list, change{what, func(c *conn.Config) { *at(c) = n }, want})
	}
	for _, n := range right {
		add(n, api.OK)
	}
	for _, n := range append(beyond, math.MinInt, math.MaxInt) {
		add(n, wrong)
	}
	return list
}

// ofSizes: a field of bytes of these sizes.
func ofSizes(what string, at func(c *conn.Config) *[]byte, right, beyond []int) []change {
	var list []change
	for i, n := range append(slices.Clone(right), beyond...) {
		want := api.OK
		if i >= len(right) {
			want = api.ErrRange
		}
		list = append(list, change{what, func(c *conn.Config) { *at(c) = bytes.Repeat([]byte{7}, n) }, want})
	}
	return list
}

// changes: each field at its bounds, and one beyond them.
func changes() []change {
	protos := func(want api.Errno, list ...string) change {
		return change{"Protos", func(c *conn.Config) { c.Protos = list }, want}
	}
	many := strings.Split("a b c d e f g h", " ")
	return slices.Concat(
		ofNumbers("Private", func(c *conn.Config) *int { return &c.Private }, api.ErrMessage, []int{1, 2, api.MaxNum}, []int{0, -1, api.MaxNum + 1}),
		[]change{
			protos(api.OK, "a"), protos(api.OK, many...), protos(api.OK, strings.Repeat("a", 32)),
			protos(api.ErrMessage), protos(api.ErrMessage, append(many, "i")...), protos(api.ErrMessage, "a", ""), protos(api.ErrMessage, strings.Repeat("a", 33)),
		},
		ofSizes("Own", func(c *conn.Config) *[]byte { return &c.Own }, []int{8}, []int{0, 7, 9, 20}),
		ofSizes("First", func(c *conn.Config) *[]byte { return &c.First }, []int{8, 9, 20}, []int{0, 7, 21}),
		ofSizes("Token", func(c *conn.Config) *[]byte { return &c.Token }, []int{0, 1, 256}, []int{257, 5000}),
		ofNumbers("Room", func(c *conn.Config) *int { return &c.Room }, api.ErrRange, []int{1, 4000}, []int{0, -1, 4001, api.MaxRoom + 1}),
		[]change{
			{"Room and All", func(c *conn.Config) { c.Room, c.All = api.MaxRoom, api.MaxRoom }, api.OK},
			{"Room and All", func(c *conn.Config) { c.Room, c.All = api.MaxRoom+1, 1<<30 }, api.ErrRange},
			{"Room and All", func(c *conn.Config) { c.Room, c.All = 0, 0 }, api.ErrRange},
		},
		ofNumbers("All", func(c *conn.Config) *int { return &c.All }, api.ErrRange, []int{1000, 1 << 30}, []int{999, 0, -1, 1<<30 + 1}),
		ofNumbers("Both", func(c *conn.Config) *int { return &c.Both }, api.ErrRange, []int{0, 64}, []int{-1, 65}),
		ofNumbers("One", func(c *conn.Config) *int { return &c.One }, api.ErrRange, []int{0, 64}, []int{-1, 65}),
		ofNumbers("Idle", func(c *conn.Config) *int { return &c.Idle }, api.ErrRange, []int{0, 1, 1 << 30}, []int{-1, 1<<30 + 1}),
	)
}

// Types: the numbers of the states and of the kinds of events.
func TestNumbers(t *testing.T) {
	if got, want := [4]int{conn.Shaking, conn.Open, conn.Closing, conn.Gone}, [4]int{0, 1, 2, 3}; got != want {
		t.Errorf("the states are %v", got)
	}
	if got, want := [5]int{conn.Ready, conn.Opened, conn.Reset, conn.Stopped, conn.Ended}, [5]int{1, 2, 3, 4, 5}; got != want {
		t.Errorf("the kinds of events are %v", got)
	}
}

// P12.1: each field at its bounds, and beyond them; a client's Peer is not looked at.
func TestNew(t *testing.T) {
	for _, side := range []int{client, server} {
		peers := []int{0, 1, 8, 20}
		list := append(changes(), ofSizes("Peer", func(c *conn.Config) *[]byte { return &c.Peer }, peers, []int{21, 300})...)
		for _, c := range list {
			config := configOf(side)
			c.by(&config)
			want := c.want
			if side == client && c.what == "Peer" {
				want = api.OK
			}
			x, e := conn.New(config, 5)
			if e != want || (x != nil) != (e == api.OK) {
				t.Fatalf("side %d, %s: New: %v, %d; want %d", side, c.what, x != nil, e, want)
			}
			if e == api.OK && (x.State() != conn.Shaking || len(x.Events()) != 0 || x.Proto() != "") {
				t.Fatalf("side %d, %s: state %d", side, c.what, x.State())
			}
		}
	}
}

// P12.1: what the handshake refuses is found first.
func TestNewOrder(t *testing.T) {
	var messages, ranges []change
	for _, c := range changes() {
		switch c.want {
		case api.ErrMessage:
			messages = append(messages, c)
		case api.ErrRange:
			ranges = append(ranges, c)
		}
	}
	for _, m := range messages {
		for _, r := range ranges {
			config := configOf(server)
			m.by(&config)
			r.by(&config)
			if x, e := conn.New(config, 0); x != nil || e != api.ErrMessage {
				t.Fatalf("%s and %s: %d", m.what, r.what, e)
			}
		}
	}
}

// P12.1, P12.3: sides with configs at the bounds come to Open, and carry bytes.
func TestConfigsAtTheirBounds(t *testing.T) {
	for _, by := range []func(c *conn.Config){
		func(c *conn.Config) { c.First = bytes.Repeat([]byte{1}, 20) },
		func(c *conn.Config) { c.Token = bytes.Repeat([]byte{1}, 256) },
		func(c *conn.Config) { c.Token = bytes.Repeat([]byte{1}, 63); c.First = c.First[:8] },
		func(c *conn.Config) { c.Room, c.All = 1, 1 },
		func(c *conn.Config) { c.Room, c.All = api.MaxRoom, 1<<30 },
		func(c *conn.Config) { c.Both, c.One, c.Idle = 64, 64, 1<<30 },
		func(c *conn.Config) { c.Private = api.MaxNum },
		func(c *conn.Config) {
			c.Protos = []string{"h3", strings.Repeat("b", 32), strings.Repeat("c", 32), strings.Repeat("d", 32), strings.Repeat("e", 32), strings.Repeat("f", 32), strings.Repeat("g", 32), strings.Repeat("h", 32)}
			c.Token = bytes.Repeat([]byte{1}, 256)
		},
		func(c *conn.Config) {
			if !c.Server {
				c.Peer = nil
			}
		},
	} {
		n := openNet(t, by)
		n.open(client, true, 0)
		n.write(client, 0, "x", 1)
		n.refuse(n.sides[client].Finish(0), api.OK)
		n.rest()
		n.read(server, 0, 5, "x", true)
	}
}

// P12.7: a config stays as it is, its spare room too, and nothing of it is kept.
func TestConfigIsNotKept(t *testing.T) {
	spoilt := func(c conn.Config) *conn.Conn {
		protos := append(slices.Clone(c.Protos), "spare", "room")
		c.Protos = protos[:len(c.Protos)]
		c.First, c.Own, c.Peer, c.Token = roomy(c.First), roomy(c.Own), roomy(c.Peer), roomy([]byte("token"))
		lists := [][]byte{c.First, c.Own, c.Peer, c.Token}
		var before [][]byte
		for _, b := range lists {
			before = append(before, slices.Clone(b[:cap(b)]))
		}
		names := slices.Clone(protos)
		x := newSide(t, c, 0)
		for i, b := range lists {
			if !bytes.Equal(b[:cap(b)], before[i]) {
				t.Fatalf("the config was changed")
			}
			spoil(b)
		}
		if !slices.Equal(protos, names) {
			t.Fatalf("the config was changed: %q", protos)
		}
		for i := range protos {
			protos[i] = "gone"
		}
		return x
	}
	n := &net{t: t, fate: aTickLater}
	n.sides = [2]*conn.Conn{spoilt(configOf(client)), spoilt(configOf(server))}
	n.rest()
	n.wantOpen()
	n.open(client, true, 0)
	n.write(client, 0, "hello", 5)
	n.rest()
	n.read(server, 0, 9, "hello", false)
}

// P12.3, the chapter's example: both are open behind the server's second Send.
func TestExample(t *testing.T) {
	n := plainNet(t)
	c, s := n.sides[client], n.sides[server]
	if d := s.Send(0); len(d) != 0 {
		t.Fatalf("a server that was told nothing sends %d datagrams", len(d))
	}
	for i := range 2 {
		n.sendFrom(client)
		n.now++
		n.deliver()
		n.sendFrom(server)
		n.now++
		n.deliver()
		if i == 0 {
			n.wantStates(conn.Open, conn.Shaking)
		}
	}
	n.wantOpen()
	n.wantEvents(client, conn.Event{Kind: conn.Ready})
	n.wantEvents(server, conn.Event{Kind: conn.Ready})
	n.open(client, true, 0)
	n.write(client, 0, "hello", 5)
	n.rest()
	n.wantEvents(server, conn.Event{Kind: conn.Opened, ID: 0})
	n.read(server, 0, 9, "hello", false)
	if c.State() != conn.Open {
		t.Errorf("the state is %d", c.State())
	}
}

// P12.3: the first of the server's protos that the client has, and none ahead of the handshake's end.
func TestProtos(t *testing.T) {
	for _, c := range []struct {
		client, server []string
		want           string
	}{
		{[]string{"a", "b", "c"}, []string{"x", "c", "a"}, "c"},
		{[]string{"h3"}, []string{"h3"}, "h3"},
	} {
		a, b := configOf(client), configOf(server)
		a.Protos, b.Protos = c.client, c.server
		n := newNet(t, a, b)
		for n.sides[server].State() == conn.Shaking {
			for _, x := range n.sides {
				if (x.Proto() == c.want) != (x.State() == conn.Open) || x.State() == conn.Shaking && x.Proto() != "" {
					t.Fatalf("state %d, proto %q", x.State(), x.Proto())
				}
			}
			n.step()
		}
		n.rest()
		if n.sides[client].Proto() != c.want || n.sides[server].Proto() != c.want {
			t.Fatalf("protos %q, %q", n.sides[client].Proto(), n.sides[server].Proto())
		}
		n.sides[client].Close(1)
		n.rest()
		if n.sides[client].Proto() != c.want || n.sides[server].Proto() != c.want {
			t.Fatalf("protos %q, %q", n.sides[client].Proto(), n.sides[server].Proto())
		}
	}
	a, b := configOf(client), configOf(server)
	a.Protos, b.Protos = []string{"a"}, []string{"b"}
	n := newNet(t, a, b)
	n.rest()
	n.wantStates(conn.Gone, conn.Closing)
	for side, x := range n.sides {
		if l := x.Events(); len(l) != 1 || l[0].Kind != conn.Ended || x.Proto() != "" {
			t.Errorf("side %d: events %v, proto %q", side, l, x.Proto())
		}
	}
}

package conn_test

import (
	"math"
	"testing"

	"turnpike/api"
	"turnpike/conn"
)

// P12.6: who closes is closing, who is told is gone at once; both hear of it once, with the code.
func TestClose(t *testing.T) {
	for side := range 2 {
		for code, told := range map[int]int{0: 0, 1: 1, 5: 5, api.MaxNum: api.MaxNum, -1: 0, math.MinInt: 0, api.MaxNum + 1: 0, math.MaxInt: 0} {
			n := openNet(t)
			n.sides[side].Close(code)
			if n.sides[side].State() != conn.Closing || n.sides[1-side].State() != conn.Open {
				t.Fatalf("the states are %d, %d", n.sides[side].State(), n.sides[1-side].State())
			}
			n.sides[side].Close(code + 1)
			n.wantEvents(side, conn.Event{Kind: conn.Ended, Code: told})
			n.send()
			n.now++
			n.deliver()
			if n.sides[1-side].State() != conn.Gone {
				t.Fatalf("the state is %d", n.sides[1-side].State())
			}
			n.wantEvents(1-side, conn.Event{Kind: conn.Ended, Code: told})
			n.sides[1-side].Close(7)
			n.sides[1-side].Tick(n.now)
			n.rest()
			n.sides[side].Close(9)
			n.wantEvents(side)
			n.wantEvents(1 - side)
		}
	}
}

// P12.6: who closes answers what comes, for 3000 ticks, and is gone then; who is gone says nothing.
func TestFarewell(t *testing.T) {
	for side := range 2 {
		n := openNet(t)
		other := n.sides[1-side]
		id := theirs(1-side, 0, true)
		n.open(1-side, true, id)
		n.fate = nowhere
		n.sides[side].Close(5)
		closed := n.now
		n.send()
		at, ok := n.sides[side].Timer()
		if !ok || at != closed+3000 {
			t.Fatalf("Timer: %d, %t; want %d", at, ok, closed+3000)
		}
		for _, later := range []int{1, 2, 1000, 2999} {
			n.now = closed + later
			n.sides[side].Tick(n.now)
			if n.sides[side].State() != conn.Closing || len(n.sides[side].Send(n.now)) != 0 {
				t.Fatalf("%d ticks later: the state is %d, or it speaks unasked", later, n.sides[side].State())
			}
			other.Write(id, []byte("anything"))
			for _, d := range other.Send(n.now) {
				n.sides[side].Receive(d, n.now)
			}
			if got := len(n.sides[side].Send(n.now)); got != 1 {
				t.Fatalf("%d ticks later: %d datagrams", later, got)
			}
		}
		n.wantEvents(side, conn.Event{Kind: conn.Ended, Code: 5})
		other.Write(id, []byte("anything"))
		late := other.Send(n.now)
		n.sides[side].Tick(closed + 3000)
		if n.sides[side].State() != conn.Gone {
			t.Fatalf("3000 ticks later the state is %d", n.sides[side].State())
		}
		for _, d := range late {
			n.sides[side].Receive(d, n.now)
		}
		if got := n.sides[side].Send(closed + 3000); len(got) != 0 {
			t.Fatalf("who is gone sends %d datagrams", len(got))
		}
		if at, ok := n.sides[side].Timer(); at != 0 || ok {
			t.Fatalf("Timer: %d, %t", at, ok)
		}
		n.wantEvents(side)
	}
}

// P12.6: who missed the close is told, when it says something.
func TestToldLater(t *testing.T) {
	for side := range 2 {
		n := openNet(t)
		id := theirs(1-side, 0, true)
		n.open(1-side, true, id)
		n.fate = nowhere
		n.sides[side].Close(44)
		n.send()
		n.fate = aTickLater
		n.now += 100
		n.write(1-side, id, "hello", 5)
		n.rest()
		n.wantEvents(1-side, conn.Event{Kind: conn.Ended, Code: 44})
		if n.sides[1-side].State() != conn.Gone || n.sides[side].State() != conn.Closing {
			t.Fatalf("the states are %d, %d", n.sides[1-side].State(), n.sides[side].State())
		}
	}
}

// P12.6: both close at the same time: each is told by the other, and gone; they do not answer each other for ever.
func TestBothClose(t *testing.T) {
	n := openNet(t)
	n.sides[client].Close(1)
	n.sides[server].Close(2)
	n.wantStates(conn.Closing, conn.Closing)
	n.send()
	n.now++
	n.deliver()
	n.wantStates(conn.Gone, conn.Gone)
	n.wantEvents(client, conn.Event{Kind: conn.Ended, Code: 1})
	n.wantEvents(server, conn.Event{Kind: conn.Ended, Code: 2})
}

// P12.6: a close at each moment of the handshake and shortly behind it, by either side, whether the other hears of it at once or by what it says later.
func TestCloseAtEachMoment(t *testing.T) {
	for side := range 2 {
		for moment := range 12 {
			for _, missed := range []bool{false, true} {
				n := plainNet(t)
				for range moment {
					n.sendFrom(n.now % 2)
					n.now++
					n.deliver()
				}
				n.sides[client].Events()
				n.sides[server].Events()
				n.sides[side].Close(6)
				if s := n.sides[side].State(); s != conn.Closing {
					t.Fatalf("moment %d: the state is %d", moment, s)
				}
				n.wantEvents(side, conn.Event{Kind: conn.Ended, Code: 6})
				if missed {
					n.fate = nowhere
					n.send()
					n.fate = aTickLater
				}
				for range 200 {
					if n.sides[1-side].State() == conn.Gone || n.now > 2500 {
						break
					}
					n.step()
				}
				// who has nothing to say and waits for nothing can't be told, if it missed the close
				_, waits := n.sides[1-side].Timer()
				silent := missed && !waits && n.sides[1-side].State() != conn.Gone
				if s := n.sides[1-side].State(); s != conn.Gone && !silent {
					t.Fatalf("side %d, moment %d, missed %t: the state is %d", side, moment, missed, s)
				}
				if l := n.sides[1-side].Events(); !silent && (len(l) == 0 || l[len(l)-1] != (conn.Event{Kind: conn.Ended, Code: 6})) {
					t.Fatalf("side %d, moment %d, missed %t: events %v", side, moment, missed, l)
				}
			}
		}
	}
}

// idleNet: two sides that are open, whose Idle are these; nothing is under way any more.
func idleNet(t *testing.T, c, s int) *net {
	t.Helper()
	a, b := configOf(client), configOf(server)
	a.Idle, b.Idle = c, s
	n := newNet(t, a, b)
	for range 10 {
		n.send()
		n.now++
		n.deliver()
	}
	n.wantOpen()
	n.sides[client].Events()
	n.sides[server].Events()
	return n
}

// P12.6: without a datagram for Idle ticks a side is gone, at that Tick and no sooner; the lesser of both counts, of those above 0.
func TestIdle(t *testing.T) {
	for _, c := range []struct{ client, server, want int }{{500, 900, 500}, {900, 500, 500}, {700, 0, 700}, {0, 700, 700}, {800, 800, 800}, {0, 0, 0}, {1 << 30, 600, 600}} {
		for side := range 2 {
			n := idleNet(t, c.client, c.server)
			x := n.sides[side]
			// a datagram that comes now begins the count anew
			n.now += 100
			id := theirs(1-side, 0, true)
			n.open(1-side, true, id)
			n.write(1-side, id, "x", 1)
			n.sendFrom(1 - side)
			n.now++
			n.deliver()
			came := n.now
			n.fate = nowhere
			if c.want == 0 {
				x.Tick(1 << 40)
				if x.State() != conn.Open {
					t.Fatalf("without Idle the state is %d", x.State())
				}
				continue
			}
			x.Tick(came + c.want - 1)
			if x.State() != conn.Open {
				t.Fatalf("%+v: ahead of the time the state is %d", c, x.State())
			}
			x.Send(came + c.want - 1)
			if at, ok := x.Timer(); !ok || at > came+c.want {
				t.Fatalf("%+v: Timer: %d, %t; want %d", c, at, ok, came+c.want)
			}
			x.Events()
			x.Tick(came + c.want)
			if x.State() != conn.Gone {
				t.Fatalf("%+v: the state is %d", c, x.State())
			}
			n.wantEvents(side, conn.Event{Kind: conn.Ended, Code: -1})
			x.Close(3)
			x.Tick(came + 2*c.want)
			n.wantEvents(side)
			if d := x.Send(came + 2*c.want); len(d) != 0 {
				t.Fatalf("who is gone sends %d datagrams", len(d))
			}
		}
	}
}

// P12.6: a side that is never answered is gone by its own Idle, counted from its beginning; without one it is not.
func TestIdleWhileShaking(t *testing.T) {
	for side := range 2 {
		for _, idle := range []int{0, 1, 50, 5000} {
			c := configOf(side)
			c.Idle = idle
			x := newSide(t, c, 700)
			x.Send(700)
			x.Tick(700 + idle - 1)
			if x.State() != conn.Shaking {
				t.Fatalf("Idle %d: the state is %d", idle, x.State())
			}
			if at, ok := x.Timer(); idle == 1 && (!ok || at != 701) {
				t.Fatalf("Timer: %d, %t", at, ok)
			}
			x.Tick(700 + idle)
			if want := map[bool]int{true: conn.Shaking, false: conn.Gone}[idle == 0]; x.State() != want {
				t.Fatalf("Idle %d: the state is %d", idle, x.State())
			}
			l := x.Events()
			if idle > 0 && (len(l) != 1 || l[0] != (conn.Event{Kind: conn.Ended, Code: -1})) {
				t.Fatalf("events %v", l)
			}
		}
	}
}

// P12.6: only Tick ends a side by its idleness, and a side that closes has its 3000 ticks.
func TestIdleByTickOnly(t *testing.T) {
	n := idleNet(t, 500, 500)
	x := n.sides[server]
	x.Send(n.now + 600)
	if x.State() != conn.Open {
		t.Fatalf("the state is %d", x.State())
	}
	x.Receive(nil, n.now+700)
	x.Close(1)
	x.Tick(n.now + 700 + 2999)
	if x.State() != conn.Closing {
		t.Fatalf("the state is %d", x.State())
	}
	x.Tick(n.now + 700 + 3000)
	if x.State() != conn.Gone {
		t.Fatalf("the state is %d", x.State())
	}
}

// Times that fall, and times above 2^40, count as the greatest so far; at New as 0.
func TestTimes(t *testing.T) {
	const last = 1 << 40
	for _, now := range []int{math.MinInt, -1, 0, last + 1, math.MaxInt} {
		c := configOf(client)
		c.Idle = 100
		x := newSide(t, c, now)
		if at, ok := x.Timer(); !ok || at != 100 {
			t.Fatalf("New at %d: Timer: %d, %t", now, at, ok)
		}
	}
	c := configOf(client)
	c.Idle = 100
	x := newSide(t, c, last)
	if at, ok := x.Timer(); ok {
		t.Fatalf("Timer: %d, though it will never be that time", at)
	}
	x = newSide(t, c, last-100)
	if at, ok := x.Timer(); !ok || at != last {
		t.Fatalf("Timer: %d, %t", at, ok)
	}
	x.Tick(last)
	if x.State() != conn.Gone {
		t.Fatalf("the state is %d", x.State())
	}
	x = newSide(t, c, 1000)
	for _, now := range []int{0, -5, math.MinInt, last + 1, math.MaxInt, 999} {
		x.Tick(now)
		x.Receive([]byte{1, 2, 3}, now)
		x.Send(now)
		if at, ok := x.Timer(); !ok || at != 1100 || x.State() != conn.Shaking {
			t.Fatalf("time %d: Timer: %d, %t; state %d", now, at, ok, x.State())
		}
	}
	x.Send(1050) // the greatest so far, also by a Send
	x.Receive(nil, 0)
	if at, ok := x.Timer(); !ok || at != 1150 {
		t.Fatalf("Timer: %d, %t", at, ok)
	}
	x.Tick(last)
	if x.State() != conn.Gone {
		t.Fatalf("the state is %d", x.State())
	}
}

// P12.3: two sides whose clocks are told backwards and beyond the last time come to Open all the same.
func TestOddClocks(t *testing.T) {
	n := plainNet(t)
	odd := []int{7, -3, 1<<40 + 9, 2, math.MaxInt, 8, math.MinInt}
	for i := range 40 {
		n.now = odd[i%len(odd)]
		n.send()
		for _, f := range n.wire {
			n.receive(f.to, f.data)
		}
		n.wire = nil
	}
	n.wantOpen()
}

package conn_test

import (
	"math"
	"strings"
	"testing"

	"turnpike/api"
	"turnpike/conn"
)

// ids that are no streams of anybody.
func nobodys() []int {
	return []int{math.MinInt, -4, -1, 77, 400, 401, 402, 403, 1 << 40, api.MaxNum, api.MaxNum + 1, math.MaxInt}
}

// answers: what all calls on a stream answer, with a right code and wrong ones.
type answers struct {
	write, finish, read, reset, stop api.Errno
}

// ask: whether a side's calls on a stream answer so, those that are refused. A call that would be taken is not made.
func (n *net) ask(side, id int, want answers) {
	n.t.Helper()
	x := n.sides[side]
	if want.write != api.OK {
		for _, data := range [][]byte{nil, {}, []byte("abc")} {
			if got, e := x.Write(id, data); got != 0 || e != want.write {
				n.t.Fatalf("side %d: Write on %d: %d, %d; want %d", side, id, got, e, want.write)
			}
		}
	}
	if want.finish != api.OK {
		n.refuse(x.Finish(id), want.finish)
	}
	if want.read != api.OK {
		for _, size := range []int{math.MinInt, -1, 0, 1, math.MaxInt} {
			if data, end, e := x.Read(id, size); len(data) != 0 || end || e != want.read {
				n.t.Fatalf("side %d: Read on %d: %q, %t, %d; want %d", side, id, data, end, e, want.read)
			}
		}
	}
	for _, code := range []int{math.MinInt, -1, 0, api.MaxNum, api.MaxNum + 1, math.MaxInt} {
		if want.reset != api.OK {
			n.refuse(x.Reset(id, code), want.reset)
		}
		if want.stop != api.OK {
			n.refuse(x.Stop(id, code), want.stop)
		}
	}
}

// P12.4: the calls in each of the four states, on streams that there are and that there are not.
func TestCallsInEachState(t *testing.T) {
	no, closed := api.ErrStream, api.ErrClosed
	n := plainNet(t)
	for side, x := range n.sides {
		for _, id := range append(nobodys(), 0, 1, 2, 3) {
			n.ask(side, id, answers{no, no, no, no, no})
		}
		for _, both := range []bool{true, false} {
			if id, e := x.Open(both); id != 0 || e != api.ErrState {
				t.Fatalf("Open: %d, %d", id, e)
			}
		}
	}
	n = openNet(t)
	n.open(client, true, 0)
	n.write(client, 0, "hello", 5)
	n.open(server, false, 3)
	n.write(server, 3, "there", 5)
	n.rest()
	for side := range n.sides {
		for _, id := range append(nobodys(), 1, 2, 4, 5, 6, 7, 8) {
			n.ask(side, id, answers{no, no, no, no, no})
		}
	}
	n.ask(client, 3, answers{write: no, finish: no, reset: no})
	n.ask(server, 3, answers{read: no, stop: no})
	n.sides[client].Close(3)
	n.wantStates(conn.Closing, conn.Open)
	for _, id := range append(nobodys(), 0, 3) {
		n.ask(client, id, answers{write: closed, finish: closed, reset: closed, stop: closed})
	}
	for _, id := range nobodys() {
		n.ask(client, id, answers{read: no, write: closed, finish: closed, reset: closed, stop: closed})
	}
	n.read(client, 3, 2, "th", false)
	n.read(client, 3, 9, "ere", false)
	n.rest()
	n.wantStates(conn.Closing, conn.Gone)
	for _, id := range append(nobodys(), 0, 3) {
		n.ask(server, id, answers{closed, closed, closed, closed, closed})
	}
	for _, x := range n.sides {
		if id, e := x.Open(true); id != 0 || e != closed {
			t.Fatalf("Open: %d, %d", id, e)
		}
	}
	n.sides[client].Tick(n.now + 3000)
	n.wantStates(conn.Gone, conn.Gone)
	n.ask(client, 3, answers{closed, closed, closed, closed, closed})
}

// P12.4, Types: streams of all four kinds, in their order.
func TestNumbersOfStreams(t *testing.T) {
	n := openNet(t)
	for i := range 3 {
		n.open(client, true, 4*i)
		n.open(server, true, 4*i+1)
	}
	for i := range 2 {
		n.open(client, false, 4*i+2)
		n.open(server, false, 4*i+3)
	}
	for side := range n.sides {
		n.noneMore(side, true)
		n.noneMore(side, false)
	}
}

// P12.7: a stream that is named opens those of its kind below it, each told once, in order.
func TestNamedOutOfOrder(t *testing.T) {
	for _, by := range []func(n *net, side, id int){
		func(n *net, side, id int) { n.write(side, id, "x", 1) },
		func(n *net, side, id int) { n.refuse(n.sides[side].Finish(id), api.OK) },
		func(n *net, side, id int) { n.refuse(n.sides[side].Reset(id, 5), api.OK) },
	} {
		n := openNet(t)
		for side := range n.sides {
			for i := range 3 {
				n.open(side, true, 4*i+side)
			}
			n.open(side, false, 2+side)
			n.open(side, false, 6+side)
			by(n, side, 4+side)
			n.rest()
			told := func(ids ...int) {
				t.Helper()
				list := n.sides[1-side].Events()
				for _, id := range ids {
					if len(list) == 0 || list[0] != (conn.Event{Kind: conn.Opened, ID: id}) {
						t.Fatalf("events %v; want Opened %v", list, ids)
					}
					list = list[1:]
				}
				if len(list) > 0 && list[0].Kind != conn.Reset {
					t.Fatalf("events %v", list)
				}
			}
			told(side, 4+side)
			by(n, side, 6+side)
			n.rest()
			told(2+side, 6+side)
			by(n, side, side)
			by(n, side, 2+side)
			n.rest()
			told()
			by(n, side, 8+side)
			n.rest()
			told(8 + side)
			n.sides[side].Events()
		}
	}
}

// P12.4: as much is taken as there is room for, and more when some has arrived; an empty write takes nothing and says nothing.
func TestWriteMoreThanTheRoom(t *testing.T) {
	n := openNet(t, func(c *conn.Config) { c.Room, c.All = 10, 10 })
	n.open(client, true, 0)
	n.write(client, 0, "", 0)
	n.rest()
	n.wantEvents(server)
	n.write(client, 0, "abcdefghijklm", 10)
	n.write(client, 0, "klm", 0)
	n.rest()
	n.write(client, 0, "klmnopqrstuvw", 10) // the first ten have arrived
	n.rest()
	n.write(client, 0, "uvw", 0) // there is no room for the other ones at the other side
	n.read(server, 0, 3, "abc", false)
	n.rest()
	n.read(server, 0, 0, "", false)
	n.read(server, 0, -5, "", false)
	n.read(server, 0, 99, "defghijklm", false)
	n.refuse(n.sides[client].Finish(0), api.OK)
	n.rest()
	n.read(server, 0, 99, "nopqrst", true)
	n.read(server, 0, 99, "", true)
	n.ask(client, 0, answers{write: api.ErrDone, finish: api.ErrDone})
}

// P12.4: ends without bytes, behind bytes that arrived, and told once more.
func TestEnds(t *testing.T) {
	n := openNet(t)
	n.open(client, true, 0)
	n.open(client, false, 2)
	n.refuse(n.sides[client].Finish(0), api.OK)
	n.write(client, 2, "abc", 3)
	n.rest()
	n.read(server, 0, 5, "", true)
	n.read(server, 2, 5, "abc", false)
	n.refuse(n.sides[client].Finish(2), api.OK)
	n.read(server, 2, 5, "", false)
	n.rest()
	n.read(server, 2, 0, "", true)
	n.write(server, 0, "back", 4)
	n.refuse(n.sides[server].Finish(0), api.OK)
	n.rest()
	n.read(client, 0, 3, "bac", false)
	n.read(client, 0, 3, "k", true)
	n.ask(server, 0, answers{write: api.ErrDone, finish: api.ErrDone})
	n.ask(client, 0, answers{write: api.ErrDone, finish: api.ErrDone})
}

// total: how many bytes a side can write on streams, while the other reads nothing.
func (n *net) total(side int, ids ...int) int {
	n.t.Helper()
	sum := 0
	for {
		more := 0
		for _, id := range ids {
			got, e := n.sides[side].Write(id, make([]byte, 100000))
			n.refuse(e, api.OK)
			more += got
		}
		if more == 0 {
			return sum
		}
		sum += more
		n.rest()
	}
}

// P12.5: a reader that does not read is sent Room of a stream and All of all of them; the writer keeps Room of each; when it reads, the rest comes.
func TestReaderThatDoesNotRead(t *testing.T) {
	for _, c := range []struct{ room, all, keeps int }{{1000, 4000, 1000}, {1000, 1000, 1000}, {1000, 1500, 50}, {1, 1, 1}, {1, 2, 7}, {65536, 65536, 65536}, {65536, 1 << 30, 3000}} {
		reader, writer := configOf(server), configOf(client)
		reader.Room, reader.All = c.room, c.all
		writer.Room, writer.All = c.keeps, c.keeps
		n := newNet(t, writer, reader)
		n.rest()
		ids := []int{0, 4, 8}
		for _, id := range ids {
			n.open(client, true, id)
		}
		sum := n.total(client, ids...)
		if want := min(3*c.room, c.all) + 3*c.keeps; sum != want {
			t.Fatalf("%+v: %d bytes were taken; want %d", c, sum, want)
		}
		got := 0
		for _, id := range ids {
			data, _, _ := n.sides[server].Read(id, 1<<20)
			if len(data) > c.room {
				t.Fatalf("%+v: %d bytes of a stream had come", c, len(data))
			}
			got += len(data)
		}
		if want := min(3*c.room, c.all); got != want {
			t.Fatalf("%+v: %d bytes had come; want %d", c, got, want)
		}
		for range 3*c.keeps + 3 {
			n.rest()
			for _, id := range ids {
				data, _, _ := n.sides[server].Read(id, 1<<20)
				got += len(data)
			}
		}
		if got != sum {
			t.Fatalf("%+v: %d bytes came; want %d", c, got, sum)
		}
	}
}

// P12.3: one stream is not kept from going by another that is not read, where All leaves room.
func TestOneIsNotReadTheOtherIs(t *testing.T) {
	n := openNet(t, func(c *conn.Config) { c.Room, c.All = 1000, 1001 })
	n.open(client, true, 0)
	n.open(client, true, 4)
	n.total(client, 0)
	text := "all of this comes byte by byte"
	n.write(client, 4, text, len(text))
	n.refuse(n.sides[client].Finish(4), api.OK)
	for i := range len(text) {
		n.rest()
		n.read(server, 4, 99, text[i:i+1], i == len(text)-1)
	}
}

// overBy: ways in which a stream of both ways of the client's comes to be over, step by step; only the last one makes it so.
func overBy() map[string][]func(n *net, id int) {
	c, s := client, server
	finish := func(side int) func(*net, int) {
		return func(n *net, id int) { n.refuse(n.sides[side].Finish(id), api.OK) }
	}
	reset := func(side int) func(*net, int) {
		return func(n *net, id int) { n.refuse(n.sides[side].Reset(id, 9), api.OK) }
	}
	stop := func(side int) func(*net, int) {
		return func(n *net, id int) { n.refuse(n.sides[side].Stop(id, 9), api.OK) }
	}
	read := func(side int) func(*net, int) {
		return func(n *net, id int) { n.sides[side].Read(id, 1<<20) }
	}
	write := func(side int) func(*net, int) {
		return func(n *net, id int) { n.write(side, id, "abc", 3) }
	}
	return map[string][]func(n *net, id int){
		"both ends":           {write(c), finish(c), write(s), finish(s), read(s)},
		"the server's end":    {write(c), finish(c), read(s), finish(s)},
		"an end of nothing":   {finish(c), finish(s), read(s)},
		"both reset":          {write(c), reset(c), reset(s)},
		"reset, then ends":    {write(c), write(s), reset(c), finish(s)},
		"ends, then reset":    {write(c), write(s), finish(c), read(s), reset(s)},
		"the server resets":   {write(c), write(s), reset(s), finish(c), read(s)},
		"the client gives up": {write(c), write(s), reset(c), stop(c)},
		"the server gives up": {write(c), write(s), stop(s), reset(s)},
	}
}

// nag: all is asked again of a stream that is over: nothing more may come of it.
func (n *net) nag(id int) {
	n.t.Helper()
	for _, x := range n.sides {
		x.Read(id, 1<<20)
		x.Write(id, []byte("more"))
		x.Finish(id)
		n.rest()
		x.Reset(id, 3)
		n.rest()
		x.Stop(id, 4)
		n.rest()
	}
}

// P12.4: for each stream that is over another one may be opened, and no sooner.
func TestOthersWhenSomeAreOver(t *testing.T) {
	for what, steps := range overBy() {
		n := openNet(t)
		for i := range 3 {
			n.open(client, true, 4*i)
		}
		next := 12
		for id := range 6 {
			for i, step := range steps {
				n.noneMore(client, true)
				step(n, 4*id)
				n.rest()
				if i < len(steps)-1 {
					n.noneMore(client, true)
				}
			}
			n.nag(4 * id)
			if got, e := n.sides[client].Open(true); got != next || e != api.OK {
				t.Fatalf("%s: Open: %d, %d; want %d", what, got, e, next)
			}
			n.nag(4 * id)
			next += 4
		}
		n.noneMore(client, true)
	}
}

// P12.4: streams of one way, of either side, when they are over.
func TestOthersOfOneWay(t *testing.T) {
	for side := range 2 {
		n := openNet(t)
		n.open(side, false, 2+side)
		n.open(side, false, 6+side)
		n.noneMore(side, false)
		n.write(side, 2+side, "abc", 3)
		n.refuse(n.sides[side].Finish(2+side), api.OK)
		n.rest()
		n.read(1-side, 2+side, 2, "ab", false)
		n.rest()
		n.noneMore(side, false)
		n.read(1-side, 2+side, 2, "c", true)
		n.noneMore(side, false)
		n.rest()
		n.open(side, false, 10+side)
		n.noneMore(side, false)
		n.refuse(n.sides[side].Reset(6+side, 0), api.OK)
		n.rest()
		n.open(side, false, 14+side)
		n.write(side, 10+side, "abc", 3)
		n.rest()
		n.noneMore(side, false)
		n.refuse(n.sides[1-side].Stop(10+side, 0), api.OK)
		n.rest()
		n.open(side, false, 18+side)
		n.noneMore(side, false)
	}
}

// P12.4: none may be opened, where the other side allows none; 64 are the most.
func TestNoneAndMost(t *testing.T) {
	n := openNet(t, func(c *conn.Config) { c.Both, c.One = 0, 0 })
	for side := range n.sides {
		n.noneMore(side, true)
		n.noneMore(side, false)
	}
	n = openNet(t, func(c *conn.Config) { c.Both, c.One = 64, 64 })
	for side := range n.sides {
		for i := range 64 {
			n.open(side, true, 4*i+side)
			n.open(side, false, 4*i+2+side)
		}
		n.noneMore(side, true)
		n.noneMore(side, false)
		n.write(side, 4*63+side, "last", 4)
	}
	n.rest()
	for side := range n.sides {
		if l := n.sides[side].Events(); len(l) != 64 {
			t.Errorf("%d events", len(l))
		}
		n.read(side, 4*63+1-side, 9, "last", false)
	}
}

// P12.4, P12.7: a reset is told once, with its code; nothing more is read; what was asked then is refused.
func TestReset(t *testing.T) {
	for side := range 2 {
		for _, code := range []int{0, 1, 1 << 40, api.MaxNum} {
			for _, both := range []bool{true, false} {
				n := openNet(t)
				id := theirs(side, 0, both)
				n.open(side, both, id)
				n.write(side, id, strings.Repeat("abc", 300), 900)
				n.rest()
				n.read(1-side, id, 2, "ab", false)
				n.wantEvents(1-side, conn.Event{Kind: conn.Opened, ID: id})
				for _, wrong := range []int{math.MinInt, -1, api.MaxNum + 1, math.MaxInt} {
					n.refuse(n.sides[side].Reset(id, wrong), api.ErrRange)
				}
				n.refuse(n.sides[side].Reset(id, code), api.OK)
				n.ask(side, id, answers{write: api.ErrStream, finish: api.ErrStream, reset: api.ErrStream})
				n.rest()
				n.wantEvents(1-side, conn.Event{Kind: conn.Reset, ID: id, Code: code})
				n.wantEvents(side)
				n.read(1-side, id, 99, "", false)
				n.ask(side, id, answers{write: api.ErrStream, finish: api.ErrStream, reset: api.ErrStream})
				n.rest()
				n.wantEvents(1 - side)
				n.wantOpen()
			}
		}
	}
}

// P12.4: a reset behind the end: if all has arrived, nothing comes of it; if not, it is told.
func TestResetBehindTheEnd(t *testing.T) {
	n := openNet(t)
	n.open(client, true, 0)
	n.write(client, 0, "hello", 5)
	n.refuse(n.sides[client].Finish(0), api.OK)
	n.rest()
	n.refuse(n.sides[client].Reset(0, -1), api.ErrRange)
	n.refuse(n.sides[client].Reset(0, 5), api.OK)
	n.refuse(n.sides[client].Reset(0, 6), api.OK)
	n.rest()
	n.ask(client, 0, answers{write: api.ErrDone, finish: api.ErrDone})
	n.wantEvents(server, conn.Event{Kind: conn.Opened})
	n.read(server, 0, 99, "hello", true)

	n.open(client, true, 4)
	n.write(client, 4, "hello", 5)
	n.refuse(n.sides[client].Finish(4), api.OK)
	n.refuse(n.sides[client].Reset(4, 5), api.OK)
	n.rest()
	n.wantEvents(server, conn.Event{Kind: conn.Opened, ID: 4}, conn.Event{Kind: conn.Reset, ID: 4, Code: 5})
	n.read(server, 4, 99, "", false)

	// all has come, but that is not known to who resets
	n.open(client, true, 8)
	n.write(client, 8, "hello", 5)
	n.refuse(n.sides[client].Finish(8), api.OK)
	n.sendFrom(client)
	n.now++
	n.deliver()
	n.refuse(n.sides[client].Reset(8, 5), api.OK)
	n.rest()
	n.wantEvents(server, conn.Event{Kind: conn.Opened, ID: 8})
	n.read(server, 8, 99, "hello", true)
}

// P12.4, P12.7: a stop is told once, with its code; nothing more is written then.
func TestStop(t *testing.T) {
	for side := range 2 {
		for _, code := range []int{0, 1, 1 << 40, api.MaxNum} {
			for _, both := range []bool{true, false} {
				n := openNet(t)
				id := theirs(side, 0, both)
				n.open(side, both, id)
				n.write(side, id, "hello", 5)
				n.rest()
				n.wantEvents(1-side, conn.Event{Kind: conn.Opened, ID: id})
				for _, wrong := range []int{math.MinInt, -1, api.MaxNum + 1, math.MaxInt} {
					n.refuse(n.sides[1-side].Stop(id, wrong), api.ErrRange)
				}
				n.refuse(n.sides[1-side].Stop(id, code), api.OK)
				n.refuse(n.sides[1-side].Stop(id, 7), api.OK)
				n.rest()
				n.wantEvents(side, conn.Event{Kind: conn.Stopped, ID: id, Code: code})
				n.wantEvents(1 - side)
				n.ask(side, id, answers{write: api.ErrDone, finish: api.ErrDone})
				n.read(1-side, id, 99, "hello", false)
				n.refuse(n.sides[1-side].Stop(id, 8), api.OK)
				n.rest()
				n.wantEvents(side)
				// who was stopped may give up still
				n.refuse(n.sides[side].Reset(id, 12), api.OK)
				n.ask(side, id, answers{write: api.ErrStream, finish: api.ErrStream, reset: api.ErrStream})
				n.rest()
				n.wantEvents(1-side, conn.Event{Kind: conn.Reset, ID: id, Code: 12})
				n.wantOpen()
			}
		}
	}
}

// P12.4: a stop behind the end: nothing comes of it, if all has been read; it is told, if not.
func TestStopBehindTheEnd(t *testing.T) {
	n := openNet(t)
	for _, id := range []int{0, 4, 8} {
		n.open(client, true, id)
		n.write(client, id, "hello", 5)
	}
	n.refuse(n.sides[client].Finish(0), api.OK)
	n.refuse(n.sides[client].Finish(4), api.OK)
	n.rest()
	n.sides[server].Events()
	n.read(server, 0, 99, "hello", true)
	n.refuse(n.sides[server].Stop(0, -1), api.ErrRange)
	n.refuse(n.sides[server].Stop(0, 5), api.OK)
	n.rest()
	n.wantEvents(client)
	n.read(server, 0, 99, "", true)

	n.read(server, 4, 4, "hell", false)
	n.refuse(n.sides[server].Stop(4, 6), api.OK)
	n.rest()
	n.wantEvents(client, conn.Event{Kind: conn.Stopped, ID: 4, Code: 6})
	n.read(server, 4, 4, "o", true)
	n.ask(client, 4, answers{write: api.ErrDone, finish: api.ErrDone})

	n.read(server, 8, 99, "hello", false)
	n.refuse(n.sides[server].Stop(8, 7), api.OK)
	n.rest()
	n.wantEvents(client, conn.Event{Kind: conn.Stopped, ID: 8, Code: 7})
}

// P12.5: what stopped and reset streams had under way does not count for the others for ever.
func TestGivenUpGivesRoom(t *testing.T) {
	n := openNet(t, func(c *conn.Config) { c.Both = 1 })
	for i := range 50 {
		id := 4 * i
		n.open(client, true, id)
		n.total(client, id)
		if i%2 == 0 {
			n.refuse(n.sides[server].Stop(id, 1), api.OK)
			n.rest()
			n.sides[server].Read(id, 1<<20)
		}
		n.refuse(n.sides[client].Reset(id, 1), api.OK)
		n.refuse(n.sides[server].Reset(id, 1), api.OK)
		n.rest()
	}
	n.open(client, true, 200)
	if got := n.total(client, 200); got != 2000 {
		t.Fatalf("%d bytes were taken", got)
	}
}

// P12.4, P12.7: so much is given up at once that no one packet can tell it: all of it is told, each once.
func TestManyAreGivenUpAtOnce(t *testing.T) {
	n := openNet(t, func(c *conn.Config) { c.Both, c.One, c.All = 64, 64, 1<<20 })
	for i := range 64 {
		n.open(client, true, 4*i)
		n.write(client, 4*i, "some", 4)
		n.open(client, false, 4*i+2)
		n.write(client, 4*i+2, "more", 4)
	}
	n.rest()
	n.sides[server].Events()
	codes := map[conn.Event]int{}
	for i := range 64 {
		n.refuse(n.sides[client].Reset(4*i, api.MaxNum-i), api.OK)
		n.refuse(n.sides[client].Stop(4*i, api.MaxNum-2*i), api.OK)
		n.refuse(n.sides[client].Reset(4*i+2, api.MaxNum-3*i), api.OK)
		codes[conn.Event{Kind: conn.Reset, ID: 4 * i, Code: api.MaxNum - i}]++
		codes[conn.Event{Kind: conn.Stopped, ID: 4 * i, Code: api.MaxNum - 2*i}]++
		codes[conn.Event{Kind: conn.Reset, ID: 4*i + 2, Code: api.MaxNum - 3*i}]++
	}
	n.rest()
	for _, e := range n.sides[server].Events() {
		codes[e]--
	}
	for e, left := range codes {
		if left != 0 {
			t.Errorf("%v was told %d times", e, 1-left)
		}
	}
	// all of them are over by now
	for i := range 64 {
		n.open(client, true, 4*(64+i))
		n.open(client, false, 4*(64+i)+2)
	}
	n.noneMore(client, true)
	n.noneMore(client, false)
}

package conn_test

import (
	"math/rand"
	"slices"
	"testing"

	"turnpike/api"
	"turnpike/conn"
)

// talk: a fixed talk: the client asks on two streams and says something on one of one way, the server answers each; all of it must come across.
type talk struct {
	*play
	begun [2]int
}

// newTalk: a talk over a network of that fate.
func newTalk(t *testing.T, fate func(int, []byte) []int) *talk {
	t.Helper()
	n := plainNet(t)
	n.fate = fate
	return &talk{play: newPlay(n, 1)}
}

// go on: both say what they have to, as far as there is room.
func (k *talk) speak() {
	k.t.Helper()
	k.hear()
	if k.sides[client].State() == conn.Open && k.begun[client] == 0 {
		for _, id := range []int{0, 4, 2} {
			k.open(client, id != 2, id)
			k.ids[client] = append(k.ids[client], id)
			k.begun[client]++
		}
	}
	for side := range k.sides {
		if k.sides[side].State() != conn.Open {
			continue
		}
		for _, id := range k.ids[side] {
			k.sayOn(key{side, id})
		}
	}
}

// size: how much is said on each way.
const size = 3500

// sayOn: what is left to say on a way.
func (k *talk) sayOn(x key) {
	k.t.Helper()
	w := k.of(x)
	if !goes(x) || w.finished {
		return
	}
	k.write(x, size-w.written)
	if w.written == size {
		k.finish(x)
	}
}

// through: the talk goes on for so many steps, and then over a network that loses nothing, to its end.
func (k *talk) through(steps int) {
	k.t.Helper()
	for range steps {
		k.speak()
		k.readAll(client)
		k.readAll(server)
		if !k.step() {
			break
		}
	}
	k.fate = aTickLater
	for range 3000 {
		k.speak()
		k.readAll(client)
		k.readAll(server)
		if !k.step() {
			break
		}
	}
	k.conclude()
	for _, x := range []key{{client, 0}, {client, 4}, {client, 2}, {server, 0}, {server, 4}} {
		if w := k.of(x); w.read != size || !w.ended {
			k.t.Fatalf("P12.3: of %v %d bytes were read of %d, end %t", x, w.read, w.written, w.ended)
		}
	}
}

// numbered: a fate by the number of a datagram to a side.
func numbered(by func(to, number int) []int) func(int, []byte) []int {
	var numbers [2]int
	return func(to int, _ []byte) []int {
		number := numbers[to]
		numbers[to]++
		return by(to, number)
	}
}

// P12.3: each datagram gets lost, comes twice, late, or ahead of those that went before it, at any place.
func TestOneDatagramIsOdd(t *testing.T) {
	for _, fate := range [][]int{nil, {1, 1}, {1, 400}, {3}, {2000}, {1, 1, 1, 5, 9}} {
		for side := range 2 {
			for place := range 30 {
				newTalk(t, numbered(func(to, number int) []int {
					if to == side && number == place {
						return fate
					}
					return []int{1}
				})).through(500)
			}
		}
	}
}

// P12.3: two datagrams get lost, one in each direction, at any places of the handshake.
func TestTwoAreLost(t *testing.T) {
	for a := range 8 {
		for b := range 8 {
			newTalk(t, numbered(func(to, number int) []int {
				if to == client && number == a || to == server && number == b {
					return nil
				}
				return []int{1}
			})).through(500)
		}
	}
}

// P12.3: all datagrams to a side, or to both, get lost from one place to another.
func TestRunsOfLosses(t *testing.T) {
	for from := range 8 {
		for _, length := range []int{1, 2, 3, 5, 10} {
			for sides := 1; sides < 4; sides++ {
				newTalk(t, numbered(func(to, number int) []int {
					if sides>>to&1 == 1 && number >= from && number < from+length {
						return nil
					}
					return []int{1}
				})).through(200)
			}
		}
	}
}

// P12.3: for very long nothing comes across, from any step on; then all does.
func TestLongRunOfLosses(t *testing.T) {
	for _, silence := range []int{1, 10, 60} {
		for begin := range 14 {
			k := newTalk(t, aTickLater)
			for range begin {
				k.speak()
				k.step()
			}
			k.fate = nowhere
			k.wire = nil
			k.through(silence)
		}
	}
}

// P12.3: all datagrams come twice; all come in the reverse order of their sending; the old ones come again much later.
func TestWholeNetworksAreOdd(t *testing.T) {
	for _, fate := range []func(to, number int) []int{
		func(to, number int) []int { return []int{1, 2} },
		func(to, number int) []int { return []int{1 + 7*(9-number%10)} },
		func(to, number int) []int { return []int{1, 500, 900, 1500} },
		func(to, number int) []int { return []int{1 + number%2*50} },
		func(to, number int) []int {
			if number%2 == 0 {
				return nil
			}
			return []int{1}
		},
		func(to, number int) []int {
			if number%5 != 4 {
				return nil
			}
			return []int{30}
		},
	} {
		newTalk(t, numbered(fate)).through(3000)
	}
}

// P12.2: the same configs and calls have the same answers, byte by byte.
func TestSameCallsSameAnswers(t *testing.T) {
	live := func(seed int64) ([]byte, [2]int, int) {
		r := rand.New(rand.NewSource(seed))
		n := newNet(t, randomConfig(r, client), randomConfig(r, server))
		p := newPlay(n, seed)
		n.fate = rough(r, 20, 20, 20)
		for range 200 {
			n.step()
			p.hear()
			p.act(r.Intn(2))
		}
		return n.log, n.sent, n.now
	}
	for seed := range int64(20) {
		a, sentA, nowA := live(seed)
		b, sentB, nowB := live(seed)
		if !slices.Equal(a, b) || sentA != sentB || nowA != nowB {
			t.Fatalf("P12.2: the lives of %d differ", seed)
		}
	}
}

// garbled: what may become of a datagram that is changed on its way.
func garbled(r *rand.Rand, d []byte) []byte {
	d = slices.Clone(d)
	switch r.Intn(6) {
	case 0:
		return d[:r.Intn(len(d))]
	case 1:
		d[r.Intn(len(d))] ^= 1 << r.Intn(8)
	case 2:
		at := r.Intn(len(d) + 1)
		d = slices.Insert(d, at, byte(r.Intn(256)))
	case 3:
		d = d[r.Intn(len(d)):]
	case 4:
		r.Read(d[r.Intn(min(len(d), 30)):])
	case 5:
		d = append(d, d[:r.Intn(len(d))]...)
	}
	return d
}

// P12.2, 'What is free': datagrams that are no packets, are cut, changed or of another connection, ahead of the right ones: nothing comes of them.
func TestGarbledDatagrams(t *testing.T) {
	for seed := range int64(30) {
		r := rand.New(rand.NewSource(seed))
		k := newTalk(t, aTickLater)
		stranger := plainNet(t, func(c *conn.Config) {
			c.Random[9], c.First = 9, []byte("strangerscid")
		})
		for range 60 {
			k.speak()
			k.send()
			stranger.send()
			for _, f := range slices.Concat(k.wire, stranger.wire) {
				k.sides[f.to].Receive(garbled(r, f.data), k.now)
				k.sides[1-f.to].Receive(f.data, k.now) // its own way back
			}
			for _, f := range stranger.wire {
				k.sides[f.to].Receive(f.data, k.now)
			}
			noise := make([]byte, r.Intn(1500))
			r.Read(noise)
			k.sides[r.Intn(2)].Receive(noise, k.now)
			stranger.step()
			if !k.step() {
				break
			}
		}
		k.through(10)
	}
}

// P12.2: any bytes, in each state, of both sides: no call panics, and what is sent has its size.
func TestAnyBytes(t *testing.T) {
	r := rand.New(rand.NewSource(12))
	heads := [][]byte{nil, {0x40}, {0xc0, 0, 0, 0, 1, 8}, {0xe0, 0, 0, 0, 1, 8}, {0xd0, 0, 0, 0, 1, 8}, {0xf0, 0, 0, 0, 1, 8}, {0x80, 0, 0, 0, 0, 8}, {0xc0, 0, 0, 0, 2, 8}, []byte("\x40clientid"), []byte("\x40serverid")}
	for i := range 400 {
		n := plainNet(t)
		for range i % 9 {
			n.step()
		}
		switch i % 7 {
		case 5:
			n.sides[client].Close(1)
		case 6:
			n.sides[server].Close(1)
		}
		for range 30 {
			d := make([]byte, r.Intn(1+r.Intn(20000)))
			r.Read(d)
			copy(d, heads[r.Intn(len(heads))])
			side := r.Intn(2)
			n.receive(side, d)
			n.send()
			n.sides[side].Timer()
			n.sides[side].Tick(n.now)
		}
	}
}

// P12.2: behind a Send nothing is to go until the time of Timer comes; then Tick and Send bring something.
func TestTimerTellsWhen(t *testing.T) {
	n := openNet(t)
	n.open(client, true, 0)
	n.write(client, 0, "hello", 5)
	n.fate = nowhere
	n.send()
	x := n.sides[client]
	for range 30 {
		at, ok := x.Timer()
		if !ok || at <= n.now {
			t.Fatalf("Timer: %d, %t, at %d", at, ok, n.now)
		}
		for _, early := range []int{n.now, n.now + (at-n.now)/2, at - 1} {
			x.Tick(early)
			if d := x.Send(early); len(d) != 0 {
				t.Fatalf("%d datagrams ahead of the time", len(d))
			}
		}
		n.now = at
		if d := x.Send(at); len(d) != 0 {
			t.Fatalf("%d datagrams without a Tick", len(d))
		}
		x.Tick(at)
		if d := x.Send(at); len(d) == 0 {
			t.Fatalf("nothing at the time")
		}
	}
}

// P12.2: who has nothing to say has no timer, and says nothing.
func TestQuiet(t *testing.T) {
	n := openNet(t)
	n.open(client, true, 0)
	n.write(client, 0, "hello", 5)
	n.refuse(n.sides[client].Finish(0), api.OK)
	n.rest()
	for side, x := range n.sides {
		if at, ok := x.Timer(); ok {
			t.Errorf("side %d: Timer: %d", side, at)
		}
		x.Tick(1 << 40)
		if d := x.Send(1 << 40); len(d) != 0 {
			t.Errorf("side %d: %d datagrams", side, len(d))
		}
	}
}

// P12.3: much is carried in few datagrams, and the window is kept to: no more than so much goes at once.
func TestMuch(t *testing.T) {
	n := plainNet(t, func(c *conn.Config) { c.Room, c.All = 65536, 1<<20 })
	n.rest()
	p := newPlay(n, 3)
	p.hear()
	n.open(client, true, 0)
	p.ids[client] = append(p.ids[client], 0)
	k := key{client, 0}
	before := n.sent[server]
	p.write(k, 1<<20)
	n.send()
	if got := n.sent[server] - before; got < 5 || got > 15 {
		t.Errorf("%d datagrams at once", got)
	}
	for p.of(k).written < 1<<20 {
		n.step()
		p.hear()
		p.readAll(server)
		p.write(k, 1<<20-p.of(k).written)
	}
	p.finish(k)
	p.conclude()
	if got := n.sent[server] - before; got > 1100 {
		t.Errorf("%d datagrams", got)
	}
}

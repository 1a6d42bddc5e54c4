package shake_test

import (
	"bytes"
	"math"
	"slices"
	"strings"
	"testing"

	"turnpike/api"
	"turnpike/prim"
	"turnpike/shake"
)

// wantEnded asks of a side that has refused a Feed that ErrState follows each time, whatever is fed, and that nothing else changes.
func wantEnded(p *side) {
	p.t.Helper()
	p.feed(7, []byte{1}, api.ErrLevel)
	for _, data := range [][]byte{nil, {}, {0}, {20, 0, 0, 16}, ownHello(clientConfig()), ownHello(serverConfig())} {
		p.feed(0, data, api.ErrState)
		p.feed(1, data, api.ErrState)
	}
	p.feed(-1, nil, api.ErrLevel)
	for _, f := range heard(p.m.own) {
		p.feed(f.Level, f.Data, api.ErrState)
	}
	p.out()
}

// wantRefused asks for an error that is found at the byte at that place, no sooner: in one Feed, byte by byte, and in a second Feed.
func wantRefused(t *testing.T, server bool, taken, level int, data []byte, at int, want api.Errno) {
	t.Helper()
	p, _ := behind(t, server, taken)
	p.feed(level, data, want)
	wantEnded(p)
	p, _ = behind(t, server, taken)
	for _, x := range data[:at] {
		p.feed(level, []byte{x}, api.OK)
	}
	p.feed(level, data[at:at+1], want)
	wantEnded(p)
	p, _ = behind(t, server, taken)
	p.feed(level, data[:at], api.OK)
	p.out()
	p.feed(level, data[at:], want)
	wantEnded(p)
}

// wantRefusedWhole: the error is found at the last byte.
func wantRefusedWhole(t *testing.T, server bool, taken, level int, data []byte, want api.Errno) {
	t.Helper()
	wantRefused(t, server, taken, level, data, len(data)-1, want)
}

// P10.2: the chapter's examples.
func TestFinishedFirst(t *testing.T) {
	wantRefused(t, true, 0, 1, message(20, run(16, 0)), 0, api.ErrLevel)
	wantRefused(t, true, 0, 0, message(20, run(16, 0)), 3, api.ErrMessage)
}

// P10.2: a number that is no level is refused whenever it comes, changes nothing and doesn't count for what follows.
func TestNoLevel(t *testing.T) {
	numbers := []int{math.MinInt, -2, -1, 2, 3, 255, 256, 1 << 32, math.MaxInt}
	everyStand(t, func(server bool, taken int, all []shake.Flight) {
		p, _ := behind(t, server, taken)
		none := func() {
			for _, n := range numbers {
				p.feed(n, nil, api.ErrLevel)
				p.feed(n, []byte{20, 0, 0, 16}, api.ErrLevel)
			}
		}
		none()
		for _, f := range all[taken:] {
			p.feed(f.Level, f.Data[:3], api.OK)
			none()
			p.feed(f.Level, f.Data[3:], api.OK)
			none()
		}
		p.feed(0, []byte{0}, api.ErrState)
		none()
		p.feed(0, nil, api.ErrState)
		none()
	})
}

// P10.2: a message at the other level is refused at its first byte, ahead of anything else, also if bytes are kept.
func TestOtherLevel(t *testing.T) {
	everyStand(t, func(server bool, taken int, all []shake.Flight) {
		if taken == len(all) {
			return
		}
		next := all[taken]
		wantRefused(t, server, taken, 1-next.Level, next.Data, 0, api.ErrLevel)
		wantRefused(t, server, taken, 1-next.Level, []byte{99, 255, 255, 255, 1}, 0, api.ErrLevel)
		for kept := 1; kept < len(next.Data); kept++ {
			p, _ := behind(t, server, taken)
			p.feed(next.Level, next.Data[:kept], api.OK)
			p.feed(1-next.Level, nil, api.OK)
			p.feed(1-next.Level, next.Data[kept:], api.ErrLevel)
			wantEnded(p)
		}
	})
}

// P10.2: a type that must not come next is refused at the fourth byte, whatever its length, if that may be.
func TestEveryType(t *testing.T) {
	everyStand(t, func(server bool, taken int, all []shake.Flight) {
		if taken == len(all) {
			return
		}
		next := all[taken]
		for kind := range 256 {
			if kind == int(next.Data[0]) {
				continue
			}
			for _, length := range [][]byte{next.Data[1:4], {0, 0, 0}, {0, 16, 0}} {
				head := slices.Concat([]byte{byte(kind)}, length, next.Data[4:])
				wantRefused(t, server, taken, next.Level, head, 3, api.ErrMessage)
			}
			wantRefused(t, server, taken, next.Level, []byte{byte(kind), 0, 16, 1}, 3, api.ErrHuge)
		}
	})
}

// P10.2: a length of 4096 may be, one more may not, of whatever type.
func TestLengths(t *testing.T) {
	everyStand(t, func(server bool, taken int, all []shake.Flight) {
		if taken == len(all) {
			return
		}
		next := all[taken]
		for _, length := range []int{0, 1, 15, 17, 255, 256, 4095, 4096} {
			wantRefusedWhole(t, server, taken, next.Level, message(int(next.Data[0]), make([]byte, length)), api.ErrMessage)
		}
		for _, length := range [][]byte{{0, 16, 1}, {0, 16, 255}, {0, 17, 0}, {0, 255, 255}, {1, 0, 0}, {1, 0, 16}, {128, 0, 0}, {255, 255, 255}} {
			wantRefused(t, server, taken, next.Level, slices.Concat(next.Data[:1], length, next.Data[4:]), 3, api.ErrHuge)
		}
	})
}

// P10.2: bodies that are cut, at every byte, and bodies with bytes behind, the message's length being told as it is.
func TestBodiesCutAndBehind(t *testing.T) {
	everyStand(t, func(server bool, taken int, all []shake.Flight) {
		if taken == len(all) {
			return
		}
		next := all[taken]
		kind, body := int(next.Data[0]), next.Data[4:]
		for n := range body {
			wantRefusedWhole(t, server, taken, next.Level, message(kind, body[:n]), api.ErrMessage)
		}
		for _, n := range []int{1, 2, 16, 1000} {
			wantRefusedWhole(t, server, taken, next.Level, message(kind, body, make([]byte, n)), api.ErrMessage)
		}
		wantRefusedWhole(t, server, taken, next.Level, message(kind, []byte{0}, body), api.ErrMessage)
	})
}

// P10.2: a message that is not there whole is kept, however much of it there is.
func TestKept(t *testing.T) {
	everyStand(t, func(server bool, taken int, all []shake.Flight) {
		if taken == len(all) {
			return
		}
		next := all[taken]
		for n := range next.Data {
			p, _ := behind(t, server, taken)
			p.feed(next.Level, next.Data[:n], api.OK)
			p.out()
			p.feed(next.Level, next.Data[n:], api.OK)
			p.feedAll(all[taken+1:])
			p.out()
		}
	})
}

// P10.2: public numbers at their edges, in both hellos; with those that may be the handshake goes on.
func TestPublicNumbers(t *testing.T) {
	client, server := clientConfig(), serverConfig()
	for _, n := range []uint64{0, 1<<61 - 1, 1 << 61, 1<<62 - 1, 1 << 62, 1<<63 - 1, 1 << 63, 1<<63 + 1, 1<<64 - 1} {
		wantRefusedWhole(t, true, 0, 0, clientHello([32]byte{}, n, client.Protos, nil), api.ErrMessage)
		wantRefusedWhole(t, false, 0, 0, serverHello([32]byte{}, n), api.ErrMessage)
	}
	for _, n := range []int{1, 2, 37, 1 << 32, 1<<61 - 3, 1<<61 - 2} {
		for _, private := range []int{1, 2, 678, api.MaxNum} {
			server.Private, client.Private = private, private
			p := newSide(t, server)
			p.feedAll(clientSays(server, n, []string{"hq"}, nil))
			p.out()
			q := newSide(t, client)
			q.feedAll(serverSays(client, n, "hq", nil))
			q.out()
			if !p.s.Done() || !q.s.Done() {
				t.Errorf("the public number %d: %v, %v", n, p.s.Done(), q.s.Done())
			}
		}
	}
}

// P10.2: the protos of a client's hello are those that New takes.
func TestProtosOfHello(t *testing.T) {
	many := func(n int) []string { return slices.Repeat([]string{"hq"}, n) }
	long := func(n int) string { return strings.Repeat("l", n) }
	for _, x := range []struct {
		protos []string
		want   api.Errno
	}{
		{nil, api.ErrMessage},
		{many(1), api.OK},
		{many(8), api.OK},
		{many(9), api.ErrMessage},
		{many(255), api.ErrMessage},
		{[]string{""}, api.ErrMessage},
		{[]string{"", "hq"}, api.ErrMessage},
		{[]string{"hq", ""}, api.ErrMessage},
		{[]string{"hq", long(32)}, api.OK},
		{[]string{long(32), "hq"}, api.OK},
		{[]string{"hq", long(33)}, api.ErrMessage},
		{[]string{long(33), "hq"}, api.ErrMessage},
		{[]string{"hq", long(255)}, api.ErrMessage},
		{slices.Concat(many(7), []string{long(32)}), api.OK},
		{slices.Concat(many(7), []string{long(33)}), api.ErrMessage},
		// the count and the lengths are wrong ahead of there being none in common
		{[]string{"no", ""}, api.ErrMessage},
		{[]string{"no", long(33)}, api.ErrMessage},
		{slices.Repeat([]string{"no"}, 9), api.ErrMessage},
		{slices.Repeat([]string{"no"}, 8), api.ErrAlpn},
	} {
		hello := clientHello([32]byte{}, 5, x.protos, []byte("p"))
		if x.want != api.OK {
			wantRefusedWhole(t, true, 0, 0, hello, x.want)
			continue
		}
		p := newSide(t, serverConfig())
		p.feed(0, hello, api.OK)
		p.out()
	}
	hello := clientHello([32]byte{}, 5, []string{"no"}, []byte("p"))
	wantRefusedWhole(t, true, 0, 0, message(1, hello[4:], []byte{0}), api.ErrMessage)
	wantRefusedWhole(t, true, 0, 0, clientHello([32]byte{}, 0, []string{"no"}, nil), api.ErrMessage)
	wantRefusedWhole(t, true, 0, 0, clientHello([32]byte{}, 5, []string{"no"}, make([]byte, 1025)), api.ErrMessage)
}

// P10.2: Params of each length that may be, and of one more, in the client's hello and in the choice.
func TestParamsLengths(t *testing.T) {
	for _, n := range []int{0, 1, 255, 256, 1023, 1024, 1025, 2000} {
		hello, chosen := clientHello([32]byte{}, 5, []string{"hq"}, run(n, 3)), choice("hq", run(n, 3))
		if n > 1024 {
			wantRefusedWhole(t, true, 0, 0, hello, api.ErrMessage)
			wantRefusedWhole(t, false, 1, 1, chosen, api.ErrMessage)
			continue
		}
		p, _ := behind(t, true, 0)
		p.feed(0, hello, api.OK)
		q, _ := behind(t, false, 1)
		q.feed(1, chosen, api.OK)
		if !bytes.Equal(p.s.Peer(), run(n, 3)) || !bytes.Equal(q.s.Peer(), run(n, 3)) {
			t.Errorf("Peer of %d bytes: %d, %d", n, len(p.s.Peer()), len(q.s.Peer()))
		}
	}
}

// P10.2: of the protos in common the server takes the first of its own, in whatever order the client has them.
func TestChosenProto(t *testing.T) {
	for _, x := range []struct {
		server, client []string
		want           string
	}{
		{[]string{"a"}, []string{"a"}, "a"},
		{[]string{"a", "b"}, []string{"b", "a"}, "a"},
		{[]string{"b", "a"}, []string{"a", "b"}, "b"},
		{[]string{"x", "y", "b", "a"}, []string{"c", "a", "b"}, "b"},
		{[]string{"x", "a"}, []string{"a", "a"}, "a"},
		{[]string{"a", "a"}, []string{"b", "c", "d", "e", "f", "g", "h", "a"}, "a"},
		{[]string{"h3"}, []string{"h", "h33", "h3"}, "h3"},
		{[]string{"a"}, []string{"b"}, ""},
		{[]string{"h3"}, []string{"h", "3", "h33", "H3", "h3 "}, ""},
		{[]string{"a", "b", "c"}, []string{"ab", "bc", "abc"}, ""},
	} {
		c := serverConfig()
		c.Protos = x.server
		p := newSide(t, c)
		hello := clientHello([32]byte{}, 5, x.client, []byte("p"))
		if x.want == "" {
			p.feed(0, hello, api.ErrAlpn)
			wantTold(t, p.s, shake.Secrets{}, shake.Secrets{}, "", nil, false)
			wantEnded(p)
			continue
		}
		p.feed(0, hello, api.OK)
		if p.s.Proto() != x.want {
			t.Errorf("of %q and %q: %q", x.server, x.client, p.s.Proto())
		}
		p.out()
	}
}

// P10.2: a choice must be one of the client's own, in whatever place; one that no client may have is no proto at all.
func TestChoice(t *testing.T) {
	for _, proto := range []string{"no", "h", "h33", "H3", "h3 ", "\x00", strings.Repeat("x", 32)} {
		wantRefusedWhole(t, false, 1, 1, choice(proto, []byte("p")), api.ErrAlpn)
		wantRefusedWhole(t, false, 1, 1, message(8, one(proto), two(nil), []byte{0}), api.ErrMessage)
		wantRefusedWhole(t, false, 1, 1, choice(proto, make([]byte, 1025)), api.ErrMessage)
	}
	for _, proto := range []string{"", strings.Repeat("x", 33), strings.Repeat("x", 255)} {
		wantRefusedWhole(t, false, 1, 1, choice(proto, []byte("p")), api.ErrMessage)
	}
	c := clientConfig()
	c.Protos = []string{"a", "b", strings.Repeat("x", 32)}
	for _, proto := range c.Protos {
		p := newSide(t, c)
		p.feedAll(serverSays(c, 5, proto, nil))
		p.out()
		if p.s.Proto() != proto || !p.s.Done() {
			t.Errorf("the choice %q: %q, %v", proto, p.s.Proto(), p.s.Done())
		}
	}
}

// P10.2: a finished with a byte changed, of another length, of the other side, or over other words.
func TestFinished(t *testing.T) {
	for _, server := range sides() {
		all := heard(configOf(server))
		last := len(all) - 1
		right := all[last].Data
		for bit := range 128 {
			wrong := slices.Clone(right)
			wrong[4+bit/8] ^= 1 << (bit % 8)
			wantRefusedWhole(t, server, last, 1, wrong, api.ErrFinished)
		}
		for n := range 16 {
			wantRefusedWhole(t, server, last, 1, message(20, right[4:4+n]), api.ErrMessage)
			wantRefusedWhole(t, server, last, 1, message(20, right[4:], make([]byte, n+1)), api.ErrMessage)
		}
		wantRefusedWhole(t, server, last, 1, message(20, make([]byte, 16)), api.ErrFinished)
	}
	server := serverConfig()
	p, all := behind(t, true, 1)
	out := p.out()
	theirs := out[1].Data[len(out[1].Data)-20:] // the server's own, said back to it
	p.feed(1, theirs, api.ErrFinished)
	wantEnded(p)
	root, hand := handOf(prim.Agree(server.Private, prim.Public(99)), all[0].Data, out[0].Data)
	said := slices.Concat(all[0].Data, out[0].Data, out[1].Data)
	for _, wrong := range [][]byte{
		finished(hand.Server, said),
		finished(hand.Client, said[:len(said)-20]),
		finished(hand.Client, said, theirs),
		finished(root, said),
		finished(appOf(root, said).Client, said),
	} {
		wantRefusedWhole(t, true, 1, 1, wrong, api.ErrFinished)
	}
}

// P10.2: messages that come out of order, and twice.
func TestOutOfOrder(t *testing.T) {
	everyStand(t, func(server bool, taken int, all []shake.Flight) {
		for i, f := range all {
			if i == taken {
				continue
			}
			for level := range 2 {
				p, _ := behind(t, server, taken)
				switch {
				case taken == len(all):
					p.feed(level, f.Data, api.ErrState)
				case level != all[taken].Level:
					p.feed(level, f.Data, api.ErrLevel)
				case f.Data[0] != all[taken].Data[0]:
					p.feed(level, f.Data, api.ErrMessage)
				}
				wantEnded(p)
			}
		}
	})
	client := clientConfig()
	wantRefused(t, true, 1, 0, ownHello(client), 0, api.ErrLevel)
	wantRefused(t, true, 1, 1, ownHello(client), 3, api.ErrMessage)
	wantRefused(t, false, 1, 0, ownHello(serverConfig()), 0, api.ErrLevel)
	wantRefused(t, false, 1, 1, ownHello(serverConfig()), 3, api.ErrMessage)
	wantRefused(t, false, 2, 1, choice("hq", nil), 3, api.ErrMessage)
	wantRefused(t, false, 0, 0, ownHello(client), 3, api.ErrMessage)
	wantRefused(t, true, 0, 0, ownHello(serverConfig()), 3, api.ErrMessage)
}

// P10.2: an empty Feed is taken at either level, whatever is kept and also when the side is done.
func TestEmptyFeed(t *testing.T) {
	everyStand(t, func(server bool, taken int, all []shake.Flight) {
		p, _ := behind(t, server, taken)
		empty := func() {
			for level := range 2 {
				p.feed(level, nil, api.OK)
				p.feed(level, []byte{}, api.OK)
			}
		}
		empty()
		for _, f := range all[taken:] {
			for _, x := range f.Data {
				p.feed(f.Level, []byte{x}, api.OK)
				empty()
			}
		}
		if !p.s.Done() {
			t.Errorf("server %v: not done", server)
		}
		p.out()
		empty()
		p.out()
	})
}

// P10.2, P10.5: bytes behind the last message, in its Feed and in a later one, at either level; the side stays done.
func TestBehindTheLast(t *testing.T) {
	for _, server := range sides() {
		all := heard(configOf(server))
		last := all[len(all)-1]
		for _, more := range [][]byte{{0}, {20}, last.Data, message(1, run(5000, 0)), make([]byte, 1<<20)} {
			p, _ := behind(t, server, len(all)-1)
			p.feed(last.Level, slices.Concat(last.Data, more), api.ErrState)
			wantDone(p)
			p, _ = behind(t, server, len(all)-1)
			p.feed(last.Level, last.Data[:9], api.OK)
			p.feed(last.Level, slices.Concat(last.Data[9:], more), api.ErrState)
			wantDone(p)
			for level := range 2 {
				p, _ = behind(t, server, len(all))
				p.feed(level, nil, api.OK)
				p.feed(level, more, api.ErrState)
				wantDone(p)
			}
		}
	}
}

// wantDone asks of a side that was done when it refused a Feed that it still is, and tells all.
func wantDone(p *side) {
	p.t.Helper()
	_, hand := p.s.Hand()
	_, app := p.s.App()
	if !p.s.Done() || !hand || !app || p.s.Proto() != "hq" || string(p.s.Peer()) != "par" {
		p.t.Errorf("behind the last: %v, %v, %v, %q, %q", p.s.Done(), hand, app, p.s.Proto(), p.s.Peer())
	}
	wantEnded(p)
}

// P10.5: messages that stood ahead of the bad one in the same Feed have been taken, and Out tells what they brought about.
func TestTakenAheadOfTheBadOne(t *testing.T) {
	server, client := heard(serverConfig()), heard(clientConfig())
	for _, x := range []struct {
		name   string
		server bool
		taken  int
		level  int
		data   []byte
		want   api.Errno
		ahead  int // messages of the Feed that are taken
	}{
		{"a hello twice", true, 0, 0, slices.Concat(server[0].Data, server[0].Data), api.ErrLevel, 1},
		{"a finished at the hello's level", true, 0, 0, slices.Concat(server[0].Data, server[1].Data), api.ErrLevel, 1},
		{"a choice at the hello's level", false, 0, 0, slices.Concat(client[0].Data, client[1].Data), api.ErrLevel, 1},
		{"a choice twice", false, 1, 1, slices.Concat(client[1].Data, client[1].Data), api.ErrMessage, 1},
		{"a huge one behind a choice", false, 1, 1, slices.Concat(client[1].Data, []byte{8, 0, 16, 1}), api.ErrHuge, 1},
		{"a wrong finished behind a choice", false, 1, 1, slices.Concat(client[1].Data, message(20, make([]byte, 16))), api.ErrFinished, 1},
		{"a short finished behind a choice", false, 1, 1, slices.Concat(client[1].Data, message(20, make([]byte, 15))), api.ErrMessage, 1},
		{"a byte behind choice and finished", false, 1, 1, slices.Concat(client[1].Data, client[2].Data, []byte{0}), api.ErrState, 2},
		{"choice and finished behind a wrong choice", false, 1, 1, slices.Concat(choice("no", nil), client[1].Data, client[2].Data), api.ErrAlpn, 0},
		{"a byte behind the client's finished", true, 1, 1, slices.Concat(server[1].Data, []byte{20}), api.ErrState, 1},
	} {
		t.Run(x.name, func(t *testing.T) {
			p, _ := behind(t, x.server, x.taken)
			p.feed(x.level, x.data, x.want)
			if p.m.taken != x.taken+x.ahead {
				t.Errorf("%d messages were taken", p.m.taken)
			}
			want, _ := behind(t, x.server, x.taken+x.ahead)
			hand, _ := want.s.Hand()
			app, _ := want.s.App()
			wantTold(t, p.s, hand, app, want.s.Proto(), want.s.Peer(), want.s.Done())
			if out := p.out(); !sameFlights(out, want.out()) {
				t.Errorf("Out: %x", out)
			}
			wantEnded(p)
		})
	}
}

// P10.2: several messages in one Feed, and the beginning of the next.
func TestSeveralInOneFeed(t *testing.T) {
	all := heard(clientConfig())
	both := slices.Concat(all[1].Data, all[2].Data)
	for n := range len(both) + 1 {
		p, _ := behind(t, false, 1)
		p.out()
		p.feed(1, both[:n], api.OK)
		p.feed(1, both[n:], api.OK)
		if !p.s.Done() {
			t.Errorf("cut at %d: not done", n)
		}
		p.out()
	}
}

// P10.4, P10.5: what is told ahead of and behind each error, Out too: just what was told ahead of the Feed.
func TestToldBehindErrors(t *testing.T) {
	everyStand(t, func(server bool, taken int, all []shake.Flight) {
		for _, x := range wrongs(all, taken) {
			for _, asked := range sides() {
				p, _ := behind(t, server, taken)
				if asked {
					p.out()
				}
				hand, _ := p.s.Hand()
				app, _ := p.s.App()
				proto, peer, done := p.s.Proto(), p.s.Peer(), p.s.Done()
				p.feed(x.level, x.data, x.want)
				wantTold(t, p.s, hand, app, proto, peer, done)
				if out := p.out(); asked && len(out) > 0 {
					t.Errorf("Out behind an error: %x", out)
				}
				wantEnded(p)
			}
		}
	})
}

// wrong is a Feed that is refused as a whole.
type wrong struct {
	level int
	data  []byte
	want  api.Errno
}

// wrongs: one Feed for each error that a side may find where it stands.
func wrongs(all []shake.Flight, taken int) []wrong {
	if taken == len(all) {
		return []wrong{{0, []byte{1}, api.ErrState}, {1, []byte{20}, api.ErrState}}
	}
	next := all[taken]
	kind := next.Data[0]
	list := []wrong{
		{1 - next.Level, next.Data, api.ErrLevel},
		{next.Level, []byte{kind, 0, 16, 1}, api.ErrHuge},
		{next.Level, []byte{kind + 1, 0, 0, 9}, api.ErrMessage},
		{next.Level, message(int(kind)), api.ErrMessage},
	}
	switch kind {
	case 1:
		list = append(list, wrong{0, clientHello([32]byte{}, 5, []string{"no"}, []byte("p")), api.ErrAlpn})
	case 8:
		list = append(list, wrong{1, choice("no", []byte("p")), api.ErrAlpn})
	case 20:
		list = append(list, wrong{1, message(20, make([]byte, 16)), api.ErrFinished})
	}
	return list
}

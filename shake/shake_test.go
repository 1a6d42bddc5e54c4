package shake_test

import (
	"bytes"
	"encoding/hex"
	"math"
	"math/rand"
	"slices"
	"strings"
	"testing"

	"turnpike/api"
	"turnpike/prim"
	"turnpike/shake"
)

// run: n bytes, the one at i being i + first.
func run(n, first int) []byte {
	b := make([]byte, n)
	for i := range b {
		b[i] = byte(i + first)
	}
	return b
}

// unhex: the bytes that digits stand for.
func unhex(digits string) []byte {
	b, err := hex.DecodeString(digits)
	if err != nil {
		panic(err)
	}
	return b
}

func sides() []bool { return []bool{false, true} }

func clientConfig() shake.Config {
	return shake.Config{Random: [32]byte(run(32, 0)), Private: 12345, Protos: []string{"h3", "hq"}, Params: []byte("client")}
}

func serverConfig() shake.Config {
	random := run(32, 224)
	slices.Reverse(random)
	return shake.Config{Server: true, Random: [32]byte(random), Private: 678, Protos: []string{"xx", "hq", "h3"}, Params: []byte("the server")}
}

func configOf(server bool) shake.Config {
	if server {
		return serverConfig()
	}
	return clientConfig()
}

// heard: all that a side of that config hears in an ordinary handshake, message by message.
func heard(c shake.Config) []shake.Flight {
	if c.Server {
		return clientSays(c, prim.Public(99), []string{"h3", "hq"}, []byte("par"))
	}
	return serverSays(c, prim.Public(99), "hq", []byte("par"))
}

// behind: a side that has taken so many messages of an ordinary handshake, and these messages.
func behind(t *testing.T, server bool, taken int) (*side, []shake.Flight) {
	t.Helper()
	p := newSide(t, configOf(server))
	all := heard(p.m.own)
	p.feedAll(all[:taken])
	return p, all
}

// everyStand calls a function for each side and each number of messages that it may have taken.
func everyStand(t *testing.T, call func(server bool, taken int, all []shake.Flight)) {
	t.Helper()
	for _, server := range sides() {
		all := heard(configOf(server))
		for taken := range len(all) + 1 {
			call(server, taken, all)
		}
	}
}

// P10.1: the edges of each field, for either side.
func TestNewEdges(t *testing.T) {
	texts := func(n int) []string { return slices.Repeat([]string{"a"}, n) }
	for _, x := range []struct {
		name   string
		change func(c *shake.Config)
		want   api.Errno
	}{
		{"as it is", func(c *shake.Config) {}, api.OK},
		{"Private least", func(c *shake.Config) { c.Private = math.MinInt }, api.ErrMessage},
		{"Private -1", func(c *shake.Config) { c.Private = -1 }, api.ErrMessage},
		{"Private 0", func(c *shake.Config) { c.Private = 0 }, api.ErrMessage},
		{"Private 1", func(c *shake.Config) { c.Private = 1 }, api.OK},
		{"Private MaxNum", func(c *shake.Config) { c.Private = api.MaxNum }, api.OK},
		{"Private MaxNum + 1", func(c *shake.Config) { c.Private = api.MaxNum + 1 }, api.ErrMessage},
		{"Private most", func(c *shake.Config) { c.Private = math.MaxInt }, api.ErrMessage},
		{"no Protos", func(c *shake.Config) { c.Protos = nil }, api.ErrMessage},
		{"empty Protos", func(c *shake.Config) { c.Protos = []string{} }, api.ErrMessage},
		{"1 proto", func(c *shake.Config) { c.Protos = texts(1) }, api.OK},
		{"8 protos", func(c *shake.Config) { c.Protos = texts(8) }, api.OK},
		{"9 protos", func(c *shake.Config) { c.Protos = texts(9) }, api.ErrMessage},
		{"256 protos", func(c *shake.Config) { c.Protos = texts(256) }, api.ErrMessage},
		{"257 protos", func(c *shake.Config) { c.Protos = texts(257) }, api.ErrMessage},
		{"an empty proto", func(c *shake.Config) { c.Protos = []string{""} }, api.ErrMessage},
		{"an empty proto first", func(c *shake.Config) { c.Protos = []string{"", "a"} }, api.ErrMessage},
		{"an empty proto last", func(c *shake.Config) { c.Protos = []string{"a", "b", ""} }, api.ErrMessage},
		{"a proto of 32", func(c *shake.Config) { c.Protos = []string{"a", strings.Repeat("b", 32)} }, api.OK},
		{"a proto of 33", func(c *shake.Config) { c.Protos = []string{"a", strings.Repeat("b", 33)} }, api.ErrMessage},
		{"a proto of 256", func(c *shake.Config) { c.Protos = []string{strings.Repeat("b", 256), "a"} }, api.ErrMessage},
		{"a proto of any bytes", func(c *shake.Config) { c.Protos = []string{"\x00", "\xff\xfe", "é"} }, api.OK},
		{"no Params", func(c *shake.Config) { c.Params = nil }, api.OK},
		{"Params of 0", func(c *shake.Config) { c.Params = []byte{} }, api.OK},
		{"Params of 1024", func(c *shake.Config) { c.Params = run(1024, 1) }, api.OK},
		{"Params of 1025", func(c *shake.Config) { c.Params = run(1025, 1) }, api.ErrMessage},
		{"Params of 65536", func(c *shake.Config) { c.Params = run(65536, 1) }, api.ErrMessage},
		{"nothing", func(c *shake.Config) { *c = shake.Config{Server: c.Server} }, api.ErrMessage},
	} {
		for _, server := range sides() {
			c := configOf(server)
			x.change(&c)
			s, e := shake.New(c)
			if e != x.want || (s == nil) != (e != api.OK) {
				t.Errorf("New, %s: %v, %d; want %d", x.name, s, e, x.want)
			}
			if x.want == api.OK {
				p := newSide(t, c)
				p.out()
				p.feedAll(heardWith(c))
				p.out()
			}
		}
	}
}

// heardWith: an ordinary handshake for any config.
func heardWith(c shake.Config) []shake.Flight {
	if c.Server {
		return clientSays(c, prim.Public(99), c.Protos[len(c.Protos)-1:], []byte("par"))
	}
	return serverSays(c, prim.Public(99), c.Protos[len(c.Protos)-1], []byte("par"))
}

// known is a handshake that was worked out apart from this program.
type known struct {
	client, server                                               shake.Config
	proto                                                        string
	clientHello, serverHello, choice, serverFinished             string
	clientFinished, clientHand, serverHand, clientApp, serverApp string
}

func knowns() []known {
	h := strings.Repeat("h", 32)
	return []known{{
		client: clientConfig(), server: serverConfig(), proto: "hq",
		clientHello:    "01000037000102030405060708090a0b0c0d0e0f101112131415161718191a1b1c1d1e1f1ef7d671574dcd36020268330268710006636c69656e74",
		serverHello:    "02000028fffefdfcfbfaf9f8f7f6f5f4f3f2f1f0efeeedecebeae9e8e7e6e5e4e3e2e1e008b1355942553438",
		choice:         "0800000f026871000a74686520736572766572",
		serverFinished: "140000101ddac914a927e46ed00e3ef195a6934d",
		clientFinished: "14000010156398395b7a188b00d41790ce645ef4",
		clientHand:     "8439db61f5f05e09635a66ebc2cab803",
		serverHand:     "bb86d4a1c5e17e970940477857da5fad",
		clientApp:      "5d4c8eb4637bc450b21c97bc3476425f",
		serverApp:      "ac800439b7f7ebdcc55598661d12bd34",
	}, {
		client:         shake.Config{Private: 1, Protos: []string{h}},
		server:         shake.Config{Server: true, Random: [32]byte(bytes.Repeat([]byte{255}, 32)), Private: api.MaxNum, Protos: []string{h}},
		proto:          h,
		clientHello:    "0100004c00000000000000000000000000000000000000000000000000000000000000000000000000000025012068686868686868686868686868686868686868686868686868686868686868680000",
		serverHello:    "02000028ffffffffffffffffffffffffffffffffffffffffffffffffffffffffffffffff000000000000c5dd",
		choice:         "080000232068686868686868686868686868686868686868686868686868686868686868680000",
		serverFinished: "14000010f85c900956597dee514206645652cc1e",
		clientFinished: "140000101919d2ddffcaa2898d5209eaf5ee2a06",
		clientHand:     "aadbdf8145f26154b077d18c489c05cb",
		serverHand:     "cee868201b9d83e65da6db68123fe0f5",
		clientApp:      "f249ecc38a0aa9b3db9ba00961edeb84",
		serverApp:      "efd2f853ce1deb4852b14d2e2fef8420",
	}}
}

// P10.2 to P10.4: handshakes of known bytes, and what is told behind each of their messages.
func TestKnownHandshakes(t *testing.T) {
	for _, k := range knowns() {
		hand := shake.Secrets{Client: unhex(k.clientHand), Server: unhex(k.serverHand)}
		app := shake.Secrets{Client: unhex(k.clientApp), Server: unhex(k.serverApp)}
		client, _ := shake.New(k.client)
		wantOut(t, client, shake.Flight{Level: 0, Data: unhex(k.clientHello)})
		wantTold(t, client, shake.Secrets{}, shake.Secrets{}, "", nil, false)
		wantTaken(t, client, 0, k.serverHello)
		wantTold(t, client, hand, shake.Secrets{}, "", nil, false)
		wantTaken(t, client, 1, k.choice)
		wantTold(t, client, hand, shake.Secrets{}, k.proto, k.server.Params, false)
		wantOut(t, client)
		wantTaken(t, client, 1, k.serverFinished)
		wantTold(t, client, hand, app, k.proto, k.server.Params, true)
		wantOut(t, client, shake.Flight{Level: 1, Data: unhex(k.clientFinished)})

		server, _ := shake.New(k.server)
		wantOut(t, server)
		wantTold(t, server, shake.Secrets{}, shake.Secrets{}, "", nil, false)
		wantTaken(t, server, 0, k.clientHello)
		wantTold(t, server, hand, app, k.proto, k.client.Params, false)
		wantOut(t, server, shake.Flight{Level: 0, Data: unhex(k.serverHello)}, shake.Flight{Level: 1, Data: unhex(k.choice + k.serverFinished)})
		wantTaken(t, server, 1, k.clientFinished)
		wantTold(t, server, hand, app, k.proto, k.client.Params, true)
		wantOut(t, server)
	}
}

func wantTaken(t *testing.T, s *shake.Shake, level int, digits string) {
	t.Helper()
	if e := s.Feed(level, unhex(digits)); e != api.OK {
		t.Errorf("Feed of %s: %d", digits, e)
	}
}

func wantOut(t *testing.T, s *shake.Shake, want ...shake.Flight) {
	t.Helper()
	if got := s.Out(); !sameFlights(got, want) {
		t.Errorf("Out: %x; want %x", got, want)
	}
}

func wantTold(t *testing.T, s *shake.Shake, hand, app shake.Secrets, proto string, peer []byte, done bool) {
	t.Helper()
	gotHand, handOk := s.Hand()
	gotApp, appOk := s.App()
	if !sameSecrets(gotHand, hand) || handOk != (len(hand.Client) > 0) || !sameSecrets(gotApp, app) || appOk != (len(app.Client) > 0) {
		t.Errorf("Hand %x, %v, App %x, %v; want %x, %x", gotHand, handOk, gotApp, appOk, hand, app)
	}
	if s.Proto() != proto || !bytes.Equal(s.Peer(), peer) || s.Done() != done {
		t.Errorf("Proto %q, Peer %q, Done %v; want %q, %q, %v", s.Proto(), s.Peer(), s.Done(), proto, peer, done)
	}
}

// cutter: in how many bytes the next piece is to be cut, of so many that are left.
type cutter func(left int) int

// pass feeds what one side has to say to the other one in pieces.
func pass(from, to *side, cut cutter) {
	from.t.Helper()
	for _, f := range from.out() {
		for data := f.Data; len(data) > 0; {
			n := min(max(cut(len(data)), 1), len(data))
			to.feed(f.Level, data[:n], api.OK)
			data = data[n:]
		}
	}
}

// wantAgreed passes flights to and fro and asks that both sides are done and agree.
func wantAgreed(t *testing.T, client, server shake.Config, cut cutter) {
	t.Helper()
	c, s := newSide(t, client), newSide(t, server)
	pass(c, s, cut)
	pass(s, c, cut)
	if !c.s.Done() || s.s.Done() {
		t.Fatalf("behind the server's flights: the client %v, the server %v", c.s.Done(), s.s.Done())
	}
	pass(c, s, cut)
	hand, _ := c.s.Hand()
	app, _ := c.s.App()
	if len(hand.Client) != 16 || len(hand.Server) != 16 || len(app.Client) != 16 || len(app.Server) != 16 {
		t.Errorf("secrets: %x, %x", hand, app)
	}
	proto := firstOf(server.Protos, client.Protos)
	wantTold(t, c.s, hand, app, proto, server.Params, true)
	wantTold(t, s.s, hand, app, proto, client.Params, true)
}

// P10.2: the flights of both sides whole, in pieces of each size down to single bytes, and in two pieces cut anywhere.
func TestCutInPieces(t *testing.T) {
	client, server := clientConfig(), serverConfig()
	for size := 1; size <= 70; size++ {
		wantAgreed(t, client, server, func(int) int { return size })
		wantAgreed(t, client, server, func(left int) int { return left - size })
		first := true
		wantAgreed(t, client, server, func(left int) int {
			defer func() { first = !first }()
			if first {
				return size
			}
			return left
		})
	}
	wantAgreed(t, client, server, func(left int) int { return left })
}

// randomConfig: one that New takes; protos are of few kinds, so that they meet.
func randomConfig(r *rand.Rand, server bool) shake.Config {
	c := shake.Config{Server: server, Private: 1 + r.Intn(100), Params: run(r.Intn(20), r.Intn(256))}
	r.Read(c.Random[:])
	switch r.Intn(4) {
	case 0:
		c.Private = 1 + r.Intn(api.MaxNum)
	case 1:
		c.Private = api.MaxNum - r.Intn(3)
	}
	if r.Intn(10) == 0 {
		c.Params = run(1020+r.Intn(5), 9)
	}
	kinds := []string{"a", "b", "c", "h3", strings.Repeat("d", 31), strings.Repeat("d", 32), "\x00\xff"}
	for range 1 + r.Intn(8) {
		c.Protos = append(c.Protos, kinds[r.Intn(len(kinds))])
	}
	return c
}

// P10.1 to P10.4: handshakes of many configs, in pieces of all sizes.
func TestManyHandshakes(t *testing.T) {
	r := rand.New(rand.NewSource(10))
	for range 400 {
		client, server := randomConfig(r, false), randomConfig(r, true)
		if firstOf(server.Protos, client.Protos) == "" {
			continue
		}
		most := 1 + r.Intn(80)
		wantAgreed(t, client, server, func(int) int { return 1 + r.Intn(most) })
	}
}

// P10.4: the four secrets are four, and hang on what each side begins with.
func TestSecretsDiffer(t *testing.T) {
	var all [][]byte
	add := func(client, server shake.Config) {
		c, s := newSide(t, client), newSide(t, server)
		whole := func(left int) int { return left }
		pass(c, s, whole)
		pass(s, c, whole)
		hand, _ := c.s.Hand()
		app, _ := c.s.App()
		all = append(all, hand.Client, hand.Server, app.Client, app.Server)
	}
	add(clientConfig(), serverConfig())
	for _, change := range []func(c *shake.Config){
		func(c *shake.Config) { c.Random[31] ^= 1 },
		func(c *shake.Config) { c.Private++ },
	} {
		client, server := clientConfig(), serverConfig()
		change(&client)
		add(client, server)
		client = clientConfig()
		change(&server)
		add(client, server)
	}
	for i, a := range all {
		for _, b := range all[:i] {
			if bytes.Equal(a, b) {
				t.Errorf("secret %d has been there: %x", i, a)
			}
		}
	}
}

// P10.3: Out tells once what there is to say, whenever it is asked; messages of one level that follow one another stand in one flight.
func TestOutWheneverAsked(t *testing.T) {
	everyStand(t, func(server bool, taken int, all []shake.Flight) {
		p, _ := behind(t, server, taken) // asked first behind so many messages
		p.out()
		p.feedAll(all[taken:])
		p.out()
	})
	p, _ := behind(t, false, 3)
	if out := p.out(); len(out) != 2 || out[0].Level != 0 || out[0].Data[0] != 1 || out[1].Level != 1 || out[1].Data[0] != 20 {
		t.Errorf("a client that is asked at the end: %x", out)
	}
	p, _ = behind(t, true, 2)
	if out := p.out(); len(out) != 2 || out[0].Level != 0 || len(out[0].Data) != 44 || out[1].Level != 1 || out[1].Data[0] != 8 {
		t.Errorf("a server that is asked at the end: %x", out)
	}
}

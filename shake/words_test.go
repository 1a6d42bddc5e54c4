package shake_test

import (
	"bytes"
	"encoding/binary"
	"slices"
	"testing"

	"turnpike/api"
	"turnpike/prim"
	"turnpike/shake"
)

// Messages and secrets by the chapter's words.

// message: a type, three bytes of the body's length, the body.
func message(kind int, parts ...[]byte) []byte {
	body := slices.Concat(parts...)
	n := len(body)
	return append([]byte{byte(kind), byte(n >> 16), byte(n >> 8), byte(n)}, body...)
}

// eight: a number in eight bytes.
func eight(n uint64) []byte { return binary.BigEndian.AppendUint64(nil, n) }

// two: bytes behind two bytes with their length.
func two(b []byte) []byte { return append(binary.BigEndian.AppendUint16(nil, uint16(len(b))), b...) }

// one: a text behind one byte with its length.
func one(text string) []byte { return append([]byte{byte(len(text))}, text...) }

func clientHello(random [32]byte, public uint64, protos []string, params []byte) []byte {
	list := []byte{byte(len(protos))}
	for _, p := range protos {
		list = append(list, one(p)...)
	}
	return message(1, random[:], eight(public), list, two(params))
}

func serverHello(random [32]byte, public uint64) []byte {
	return message(2, random[:], eight(public))
}

func choice(proto string, params []byte) []byte {
	return message(8, one(proto), two(params))
}

func digest(parts ...[]byte) []byte {
	d := prim.Digest(slices.Concat(parts...))
	return d[:]
}

func expanded(secret []byte, label string) []byte {
	b, e := prim.Expand(secret, label, 16)
	if e != api.OK {
		panic(e)
	}
	return b
}

// handOf: the handshake's root and secrets; said are both hellos.
func handOf(shared int, said ...[]byte) (root []byte, hand shake.Secrets) {
	root = digest([]byte("turnpike hs"), eight(uint64(shared)), digest(said...))
	return root, shake.Secrets{Client: expanded(root, "c hs"), Server: expanded(root, "s hs")}
}

// appOf: the application's secrets; said are the first four messages.
func appOf(root []byte, said ...[]byte) shake.Secrets {
	root = digest([]byte("turnpike ap"), root, digest(said...))
	return shake.Secrets{Client: expanded(root, "c ap"), Server: expanded(root, "s ap")}
}

// finished: by the secret of the one who says it.
func finished(secret []byte, said ...[]byte) []byte {
	return message(20, digest([]byte("fin"), secret, digest(said...)))
}

// ownHello: what a side says first.
func ownHello(c shake.Config) []byte {
	public := uint64(prim.Public(c.Private))
	if c.Server {
		return serverHello(c.Random, public)
	}
	return clientHello(c.Random, public, c.Protos, c.Params)
}

// firstOf: the first of a server's protos that a client has; an empty text, if there is none.
func firstOf(server, client []string) string {
	for _, p := range server {
		if slices.Contains(client, p) {
			return p
		}
	}
	return ""
}

// serverSays: a server's messages to a client, each in a flight of its own.
func serverSays(client shake.Config, public int, proto string, params []byte) []shake.Flight {
	hello, other, chosen := ownHello(client), serverHello([32]byte{5, 6}, uint64(public)), choice(proto, params)
	_, hand := handOf(prim.Agree(client.Private, public), hello, other)
	return []shake.Flight{{0, other}, {1, chosen}, {1, finished(hand.Server, hello, other, chosen)}}
}

// clientSays: a client's messages to a server, each in a flight of its own.
func clientSays(server shake.Config, public int, protos []string, params []byte) []shake.Flight {
	hello, other := clientHello([32]byte{7, 8}, uint64(public), protos, params), ownHello(server)
	chosen := choice(firstOf(server.Protos, protos), server.Params)
	_, hand := handOf(prim.Agree(server.Private, public), hello, other)
	theirs := finished(hand.Server, hello, other, chosen)
	return []shake.Flight{{0, hello}, {1, finished(hand.Client, hello, other, chosen, theirs)}}
}

// model is a side by the chapter's words, that takes bytes one by one.
type model struct {
	own       shake.Config
	taken     int // messages of the other side
	failed    bool
	begun     []byte
	said      [][]byte
	root      []byte
	hand, app shake.Secrets
	proto     string
	peer      []byte
	out       []shake.Flight
}

func newModel(c shake.Config) *model {
	m := &model{own: c}
	if !c.Server {
		m.say(0, ownHello(c))
	}
	return m
}

func (m *model) say(level int, b []byte) {
	m.said = append(m.said, b)
	m.out = append(m.out, shake.Flight{Level: level, Data: b})
}

// due: the type and the level of the message that must come next; 0, if none must.
func (m *model) due() (kind, level int) {
	list := [][2]int{{2, 0}, {8, 1}, {20, 1}, {0, 0}}
	if m.own.Server {
		list = [][2]int{{1, 0}, {20, 1}, {0, 0}}
	}
	return list[m.taken][0], list[m.taken][1]
}

func (m *model) done() bool {
	kind, _ := m.due()
	return kind == 0
}

func (m *model) feed(level int, data []byte) api.Errno {
	if level != 0 && level != 1 {
		return api.ErrLevel
	}
	if m.failed {
		return api.ErrState
	}
	for _, x := range data {
		if e := m.feedByte(level, x); e != api.OK {
			m.failed = true
			return e
		}
	}
	return api.OK
}

func (m *model) feedByte(level int, x byte) api.Errno {
	kind, right := m.due()
	if m.done() {
		return api.ErrState
	}
	if level != right {
		return api.ErrLevel
	}
	m.begun = append(m.begun, x)
	if len(m.begun) < 4 {
		return api.OK
	}
	length := int(binary.BigEndian.Uint32(m.begun) & 0xffffff)
	switch {
	case length > 4096:
		return api.ErrHuge
	case int(m.begun[0]) != kind:
		return api.ErrMessage
	case len(m.begun) < 4+length:
		return api.OK
	}
	whole := m.begun
	m.begun = nil
	e := m.take(kind, whole)
	if e == api.OK {
		m.taken++
	}
	return e
}

func (m *model) take(kind int, whole []byte) api.Errno {
	switch kind {
	case 1:
		return m.takeClientHello(whole)
	case 2:
		return m.takeServerHello(whole)
	case 8:
		return m.takeChoice(whole)
	}
	secret := m.hand.Client
	if !m.own.Server {
		secret = m.hand.Server
	}
	if len(whole) != 20 {
		return api.ErrMessage
	}
	if !bytes.Equal(whole, finished(secret, m.said...)) {
		return api.ErrFinished
	}
	m.said = append(m.said, whole)
	if !m.own.Server {
		m.app = appOf(m.root, m.said...)
		m.say(1, finished(m.hand.Client, m.said...))
	}
	return api.OK
}

// A body is read as if noughts stood behind it, and is just what it must be if what was read, written again, is the body.

func padded(whole []byte) []byte { return append(slices.Clone(whole[4:]), make([]byte, 1<<17)...) }

func rightPublic(n uint64) bool { return n >= 1 && n <= 1<<61-2 }

func readOne(b []byte) (text string, rest []byte) {
	n := 1 + int(b[0])
	return string(b[1:n]), b[n:]
}

func readTwo(b []byte) []byte { return b[2 : 2+int(binary.BigEndian.Uint16(b))] }

func (m *model) takeClientHello(whole []byte) api.Errno {
	b := padded(whole)
	random, public, count := [32]byte(b[:32]), binary.BigEndian.Uint64(b[32:]), b[40]
	b = b[41:]
	protos := make([]string, count)
	right := rightPublic(public) && count >= 1 && count <= 8
	for i := range protos {
		protos[i], b = readOne(b)
		right = right && len(protos[i]) >= 1 && len(protos[i]) <= 32
	}
	params := readTwo(b)
	if !right || len(params) > 1024 || !bytes.Equal(clientHello(random, public, protos, params), whole) {
		return api.ErrMessage
	}
	chosen := firstOf(m.own.Protos, protos)
	if chosen == "" {
		return api.ErrAlpn
	}
	m.proto, m.peer = chosen, params
	m.said = append(m.said, whole)
	m.say(0, ownHello(m.own))
	m.root, m.hand = handOf(prim.Agree(m.own.Private, int(public)), m.said...)
	m.say(1, choice(chosen, m.own.Params))
	m.say(1, finished(m.hand.Server, m.said...))
	m.app = appOf(m.root, m.said...)
	return api.OK
}

func (m *model) takeServerHello(whole []byte) api.Errno {
	b := padded(whole)
	random, public := [32]byte(b[:32]), binary.BigEndian.Uint64(b[32:])
	if !rightPublic(public) || !bytes.Equal(serverHello(random, public), whole) {
		return api.ErrMessage
	}
	m.said = append(m.said, whole)
	m.root, m.hand = handOf(prim.Agree(m.own.Private, int(public)), m.said...)
	return api.OK
}

func (m *model) takeChoice(whole []byte) api.Errno {
	proto, b := readOne(padded(whole))
	params := readTwo(b)
	if len(proto) < 1 || len(proto) > 32 || len(params) > 1024 || !bytes.Equal(choice(proto, params), whole) {
		return api.ErrMessage
	}
	if !slices.Contains(m.own.Protos, proto) {
		return api.ErrAlpn
	}
	m.proto, m.peer = proto, params
	m.said = append(m.said, whole)
	return api.OK
}

// tellOut: the messages since the last time, those of one level that follow one another in one flight.
func (m *model) tellOut() []shake.Flight {
	var out []shake.Flight
	for len(m.out) > 0 {
		n := 1
		for n < len(m.out) && m.out[n].Level == m.out[0].Level {
			n++
		}
		f := shake.Flight{Level: m.out[0].Level}
		for _, part := range m.out[:n] {
			f.Data = append(f.Data, part.Data...)
		}
		out, m.out = append(out, f), m.out[n:]
	}
	return out
}

// side is the program's side beside the model's; both are told the same.
type side struct {
	t *testing.T
	s *shake.Shake
	m *model
}

func newSide(t *testing.T, c shake.Config) *side {
	t.Helper()
	s, e := shake.New(c)
	if e != api.OK || s == nil {
		t.Fatalf("New of %+v: %d", c, e)
	}
	p := &side{t, s, newModel(c)}
	p.look()
	return p
}

// feed asks for an error, and looks at what is told behind it.
func (p *side) feed(level int, data []byte, want api.Errno) {
	p.t.Helper()
	model := p.m.feed(level, data)
	if e := p.s.Feed(level, data); e != want || model != want {
		p.t.Fatalf("server %v, Feed(%d, %.60x): %d, by the model %d, want %d", p.m.own.Server, level, data, e, model, want)
	}
	p.look()
}

// feedAll feeds messages that are taken.
func (p *side) feedAll(flights []shake.Flight) {
	p.t.Helper()
	for _, f := range flights {
		p.feed(f.Level, f.Data, api.OK)
	}
}

// look holds what is told, but Out, against the model.
func (p *side) look() {
	p.t.Helper()
	hand, handOk := p.s.Hand()
	app, appOk := p.s.App()
	if !sameSecrets(hand, p.m.hand) || handOk != (p.m.hand.Client != nil) {
		p.t.Fatalf("Hand: %x, %v; want %x", hand, handOk, p.m.hand)
	}
	if !sameSecrets(app, p.m.app) || appOk != (p.m.app.Client != nil) {
		p.t.Fatalf("App: %x, %v; want %x", app, appOk, p.m.app)
	}
	if p.s.Proto() != p.m.proto || !bytes.Equal(p.s.Peer(), p.m.peer) || p.s.Done() != p.m.done() {
		p.t.Fatalf("Proto %q, Peer %.40x, Done %v; want %q, %.40x, %v", p.s.Proto(), p.s.Peer(), p.s.Done(), p.m.proto, p.m.peer, p.m.done())
	}
}

// out holds Out against the model, and against a second Out.
func (p *side) out() []shake.Flight {
	p.t.Helper()
	got, want := p.s.Out(), p.m.tellOut()
	if !sameFlights(got, want) {
		p.t.Fatalf("Out: %x; want %x", got, want)
	}
	if again := p.s.Out(); len(again) != 0 {
		p.t.Fatalf("a second Out: %x", again)
	}
	return got
}

func sameSecrets(a, b shake.Secrets) bool {
	return bytes.Equal(a.Client, b.Client) && bytes.Equal(a.Server, b.Server)
}

func sameFlights(a, b []shake.Flight) bool {
	return slices.EqualFunc(a, b, func(x, y shake.Flight) bool { return x.Level == y.Level && bytes.Equal(x.Data, y.Data) })
}

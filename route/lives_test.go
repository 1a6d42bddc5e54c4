package route_test

import (
	"bytes"
	"math"
	"math/rand"
	"slices"
	"testing"

	"turnpike/api"
	"turnpike/header"
	"turnpike/route"
)

// known: a connection as the model keeps it.
type known struct {
	conn       int
	first, own []byte
}

// model: a table by the chapter's words.
type model struct {
	config route.Config
	serial int
	list   []known
}

// find: the connection that an id leads to.
func (m *model) find(id []byte) (conn int, ok bool) {
	for _, k := range m.list {
		if bytes.Equal(k.first, id) || bytes.Equal(k.own, id) {
			return k.conn, true
		}
	}
	return 0, false
}

// next: the next id.
func (m *model) next() []byte {
	m.serial++
	return idOf(m.config.Secret, m.config.Worker, m.serial-1)
}

// add: what Add is to answer.
func (m *model) add(conn int, first, own []byte) api.Errno {
	if len(m.list) >= m.config.Most {
		return api.ErrMost
	}
	_, a := m.find(first)
	_, b := m.find(own)
	if a || b || slices.ContainsFunc(m.list, func(k known) bool { return k.conn == conn }) {
		return api.ErrTwice
	}
	m.list = append(m.list, known{conn, first, own})
	return api.OK
}

// remove: what Remove is to do.
func (m *model) remove(conn int) {
	m.list = slices.DeleteFunc(m.list, func(k known) bool { return k.conn == conn })
}

// look: what Look is to answer.
func (m *model) look(addr int, d []byte, now int) (route.Verdict, api.Errno) {
	if addr < 0 || addr > addrMost {
		return route.Verdict{}, api.ErrAddr
	}
	h, _, _, e := header.Parse(d, 8)
	if e != api.OK {
		return route.Verdict{}, api.OK
	}
	if conn, ok := m.find(h.Dst); ok {
		return route.Verdict{Kind: 1, Conn: conn}, api.OK
	}
	switch h.Kind {
	case header.Short:
		if len(d) >= 43 {
			return answered(junkReset(m.config.Secret, h.Dst, d)), api.OK
		}
	case header.Other:
		if len(d) >= 1200 {
			return answered(otherReply(h.Dst, h.Src)), api.OK
		}
	case header.Initial:
		if len(d) >= 1200 && len(h.Dst) >= 8 {
			return m.begin(h, addr, min(max(now, 0), latest)), api.OK
		}
	}
	return route.Verdict{}, api.OK
}

// begin: what Look is to answer to an initial packet that is great enough; now has been cut.
func (m *model) begin(h header.Header, addr, now int) route.Verdict {
	if m.config.Retry && len(h.Token) == 0 {
		return answered(retryReply(m.config.Secret, h.Dst, h.Src, m.next(), addr, now))
	}
	if m.config.Retry {
		if id, e := route.Proof(m.config.Secret, addr, now, h.Token); e != api.OK || !bytes.Equal(id, h.Dst) {
			return route.Verdict{}
		}
	}
	return begun(h.Dst, h.Src)
}

// life: a table and its model, told the same by chance.
type life struct {
	rng    *rand.Rand
	x      *route.Table
	m      *model
	tokens [][]byte // that retries told
	ids    [][]byte // that were used
}

// id: one that was used before, or another one.
func (l *life) id() []byte {
	if len(l.ids) > 0 && l.rng.Intn(3) > 0 {
		return l.ids[l.rng.Intn(len(l.ids))]
	}
	size := 8
	if l.rng.Intn(3) == 0 {
		size = l.rng.Intn(21)
	}
	id := run(size, 1, l.rng.Intn(30))
	l.ids = append(l.ids, id)
	return id
}

// pick: one of some numbers.
func (l *life) pick(list ...int) int {
	return list[l.rng.Intn(len(list))]
}

// token: none, one of a retry, one for an id, or any bytes.
func (l *life) token(addr int, dst []byte) []byte {
	switch l.rng.Intn(4) {
	case 0:
		return nil
	case 1:
		if len(l.tokens) > 0 {
			return l.tokens[l.rng.Intn(len(l.tokens))]
		}
	case 2:
		return tokenOf(l.m.config.Secret, addr, uint64(l.pick(0, 50, 20000, latest)), dst)
	}
	return run(1+l.rng.Intn(60), 3, 1)
}

// datagram: one of any kind, at times cut or with a byte changed.
func (l *life) datagram(addr int) []byte {
	var d []byte
	dst, src := l.id(), run(l.rng.Intn(21), 1, 90)
	switch l.rng.Intn(5) {
	case 0:
		d = shortOf(dst, l.pick(0, 9, 42, 43, 44, 1200))
	case 1:
		d = longOf(0x80|l.rng.Intn(128), l.pick(0, 1, 2, 0xffffffff), dst, src, make([]byte, l.pick(0, 16, 1000, 1200, 1204)))
	case 2:
		d = make([]byte, l.rng.Intn(60))
		l.rng.Read(d)
	default:
		d = initialOf(dst, src, l.token(addr, dst), l.pick(300, 1199, 1200, 1201))
	}
	if len(d) > 0 && l.rng.Intn(8) == 0 {
		d[l.rng.Intn(min(len(d), 40))] ^= byte(1 << l.rng.Intn(8))
	}
	if l.rng.Intn(20) == 0 {
		d = d[:l.rng.Intn(len(d)+1)]
	}
	return d
}

// look asks both for a verdict, and keeps what a retry told.
func (l *life) look(t *testing.T) {
	t.Helper()
	addr := l.pick(0, 1, addrMost, 1)
	if l.rng.Intn(30) == 0 {
		addr = l.pick(-1, addrMost+1, math.MinInt, math.MaxInt)
	}
	d, now := l.datagram(addr&addrMost), l.pick(math.MinInt, -1, 0, 50, 51, 9000, 20000, latest, math.MaxInt)
	want, wantE := l.m.look(addr, d, now)
	v, e := l.x.Look(addr, d, now)
	if e != wantE || !same(v, want) {
		t.Fatalf("Look(%d, %x, %d): %x, %d; want %x, %d", addr, d, now, v, e, want, wantE)
	}
	if h, _, _, e := header.Parse(v.Reply, 8); e == api.OK && h.Kind == header.Retry {
		l.tokens = append(l.tokens, h.Token)
		l.ids = append(l.ids, h.Src)
	}
}

// step does one thing to both.
func (l *life) step(t *testing.T) {
	t.Helper()
	switch l.rng.Intn(8) {
	case 0:
		id := l.x.Next()
		wantBytes(t, "Next", id, api.OK, l.m.next(), api.OK)
		l.ids = append(l.ids, id)
	case 1, 2:
		conn, first, own := l.rng.Intn(12)-3, l.id(), l.id()
		wantAdd(t, l.x, conn, first, own, l.m.add(conn, first, own))
	case 3:
		conn := l.rng.Intn(12) - 3
		l.x.Remove(conn)
		l.m.remove(conn)
	default:
		l.look(t)
	}
}

// P13.3 to P13.5, P1: many lives of tables, held call by call against the chapter's words.
func TestLivesOfTables(t *testing.T) {
	for seed := range 400 {
		rng := rand.New(rand.NewSource(int64(seed)))
		secret := make([]byte, 16)
		rng.Read(secret)
		c := route.Config{Secret: secret, Worker: rng.Intn(256), Most: 1 + rng.Intn(8), Retry: seed%2 == 0}
		l := &life{rng: rng, x: tableOf(t, c), m: &model{config: c}}
		for range 150 {
			l.step(t)
		}
	}
}

// P1, P13.5: any bytes at all, in any order of calls.
func TestLookAtAnyBytes(t *testing.T) {
	rng := rand.New(rand.NewSource(135))
	for _, x := range []*route.Table{plain(t), asking(t)} {
		for range 30000 {
			d := make([]byte, rng.Intn(100))
			rng.Read(d)
			x.Look(int(rng.Uint64()), d, int(rng.Uint64()))
			x.Look(rng.Intn(1<<32), d, int(rng.Uint64()))
		}
	}
}

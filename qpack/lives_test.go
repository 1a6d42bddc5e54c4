package qpack_test

import (
	"bytes"
	"fmt"
	"math"
	"math/rand"
	"slices"
	"strings"
	"testing"

	"turnpike/api"
	"turnpike/qpack"
)

// chance: choices of all kinds.
type chance struct{ *rand.Rand }

// pick: one of some.
func pick[T any](c chance, list ...T) T {
	return list[c.Intn(len(list))]
}

// field: one of a few, so that they come again; some are static, or have static names.
func (c chance) field() api.Field {
	switch c.Intn(8) {
	case 0:
		return staticTable()[c.Intn(40)]
	case 1:
		return fd(staticTable()[c.Intn(40)].Name, pick(c, "", "x", "yy"))
	case 2:
		return fd(pick(c, "", "a", "Via"), strings.Repeat(pick(c, "a", "&"), c.Intn(100)))
	}
	return fd(pick(c, "", "a", "bb", "name"), pick(c, "", "x", "yy", "aaaaaaaaaa", "12345"))
}

// fields: some of them.
func (c chance) fields() []api.Field {
	var list []api.Field
	for range c.Intn(6) {
		list = append(list, c.field())
	}
	return list
}

// stream: mostly a small number, so that streams come again.
func (c chance) stream() int {
	switch c.Intn(30) {
	case 0:
		return pick(c, -1, math.MinInt, api.MaxNum+1, math.MaxInt)
	case 1:
		return pick(c, 126, 127, 300, api.MaxNum)
	}
	return c.Intn(8)
}

// flight: a section on its way, and the fields that it was made of.
type flight struct {
	stream int
	b      []byte
	fields []api.Field
}

// pair: an encoder and a decoder that talk to each other, with their models beside them.
type pair struct {
	chance
	x         *qpack.Encoder
	mx        *modelEncoder
	d         *qpack.Decoder
	md        *modelDecoder
	toD, toX  []byte
	sections  []flight
	cancelled []int
	read      int
}

func newPair(t *testing.T, c chance) *pair {
	most := pick(c, 0, 63, 64, 68, 100, 136, 200, 500, 2000)
	use := most - c.Intn(most/4+1)
	return &pair{chance: c,
		x: encoder2(t, most, use), mx: newModelEncoder(most, use),
		d: decoder(t, most, 0, api.MaxData), md: &modelDecoder{most: most, limit: api.MaxData}}
}

// encoder2: an encoder that has still to say its capacity.
func encoder2(t *testing.T, most, use int) *qpack.Encoder {
	t.Helper()
	x, e := qpack.NewEncoder(most, use)
	if e != api.OK {
		t.Fatalf("NewEncoder(%d, %d): %d", most, use, e)
	}
	return x
}

// some takes a piece off the front of bytes that are on their way.
func (p *pair) some(way *[]byte) []byte {
	n := len(*way)
	if p.Intn(3) > 0 {
		n = p.Intn(n + 1)
	}
	b := (*way)[:n]
	*way = (*way)[n:]
	return b
}

// encode: a section more.
func (p *pair) encode(t *testing.T) {
	stream, fields := p.stream(), p.fields()
	if slices.Contains(p.cancelled, stream) {
		return
	}
	want, wantE := p.mx.encode(stream, fields)
	b, e := p.x.Encode(stream, fields)
	if !bytes.Equal(b, want) || e != wantE {
		t.Fatalf("Encode(%d, %v): %x, %d; want %x, %d", stream, fields, b, e, want, wantE)
	}
	if e == api.OK {
		p.sections = append(p.sections, flight{stream, b, fields})
	}
}

// arrive: one of the sections comes, those of a stream in their order.
func (p *pair) arrive(t *testing.T) {
	if len(p.sections) == 0 {
		return
	}
	stream := p.sections[p.Intn(len(p.sections))].stream
	i := slices.IndexFunc(p.sections, func(f flight) bool { return f.stream == stream })
	f := p.sections[i]
	p.sections = slices.Delete(p.sections, i, i+1)
	p.md.section(f.stream, f.b)
	wantFields(t, p.d, f.stream, f.b, f.fields)
	p.read++
}

// cancel: a stream is over.
func (p *pair) cancel(t *testing.T) {
	stream := p.stream()
	if p.Intn(4) > 0 {
		return
	}
	if e, want := p.d.Cancel(stream), p.md.cancel(stream); e != want {
		t.Fatalf("Cancel(%d): %d, want %d", stream, e, want)
	}
	p.cancelled = append(p.cancelled, stream)
	p.sections = slices.DeleteFunc(p.sections, func(f flight) bool { return f.stream == stream })
}

// say: both take what the other side has to say on its way.
func (p *pair) say(t *testing.T) {
	x, d := p.x.Out(), p.d.Out()
	if !bytes.Equal(x, p.mx.out) || !bytes.Equal(d, p.md.out) {
		t.Fatalf("Out: %x and %x; want %x and %x", x, d, p.mx.out, p.md.out)
	}
	p.mx.out, p.md.out = nil, nil
	p.toD, p.toX = append(p.toD, x...), append(p.toX, d...)
}

// step: something happens.
func (p *pair) step(t *testing.T) {
	switch p.Intn(8) {
	case 0, 1:
		p.encode(t)
	case 2:
		p.arrive(t)
	case 3:
		p.cancel(t)
	case 4, 5:
		p.say(t)
	case 6:
		b := p.some(&p.toD)
		wantFeed(t, p.d, b, api.OK)
		p.md.feed(b)
	case 7:
		b := p.some(&p.toX)
		wantFeed(t, p.x, b, api.OK)
		p.mx.feed(b)
	}
}

// P16.2 to P16.8: both sides talk to each other over ways that take their time: each says what its model says, and each section is read as it was made.
func TestLivesOfPairs(t *testing.T) {
	read := 0
	for seed := range 600 {
		p := newPair(t, chance{rand.New(rand.NewSource(int64(seed)))})
		for range 150 {
			p.step(t)
		}
		if t.Failed() {
			t.Fatalf("the seed %d", seed)
		}
		read += p.read
	}
	if read < 2000 {
		t.Errorf("only %d sections were read", read)
	}
}

// P16.3, P16.4: an encoder that is told anything, held call by call against the chapter's words.
func TestLivesOfEncoders(t *testing.T) {
	seen := map[api.Errno]int{}
	for seed := range 1500 {
		c := chance{rand.New(rand.NewSource(int64(seed)))}
		most := pick(c, 0, 64, 68, 100, 136, 500)
		x, m := encoder2(t, most, most), newModelEncoder(most, most)
		for range 60 {
			if c.Intn(2) == 0 {
				stream, fields := c.stream(), c.fields()
				want, wantE := m.encode(stream, fields)
				if b, e := x.Encode(stream, fields); !bytes.Equal(b, want) || e != wantE {
					t.Fatalf("seed %d: Encode(%d, %v): %x, %d; want %x, %d", seed, stream, fields, b, e, want, wantE)
				}
				continue
			}
			b := c.decoderSays(m)
			want := m.feed(b)
			wantFeed(t, x, b, want)
			seen[want]++
		}
		if !bytes.Equal(x.Out(), m.out) || t.Failed() {
			t.Fatalf("the seed %d", seed)
		}
	}
	wantSeen(t, seen, api.OK, api.ErrStream, api.ErrIndex, api.ErrSection)
}

// wantSeen asks whether each answer came often enough to be held against something.
func wantSeen(t *testing.T, seen map[api.Errno]int, all ...api.Errno) {
	t.Helper()
	for _, e := range all {
		if seen[e] < 50 {
			t.Errorf("only %d answers are %d", seen[e], e)
		}
	}
}

// decoderSays: an instruction of a decoder, mostly one that may be, at times cut or any bytes.
func (c chance) decoderSays(m *modelEncoder) []byte {
	var b []byte
	switch c.Intn(20) {
	case 0:
		b = insertsOf(pick(c, 0, 5, 70))
	case 1:
		b = cancelledOf(c.Intn(8))
	case 2:
		b = make([]byte, c.Intn(4))
		c.Read(b)
	case 3:
		b = append([]byte{byte(c.Intn(256))}, bytes.Repeat([]byte{0xff}, 10)...)
	case 4, 5, 6, 7:
		if len(m.open) > 0 {
			b = readOf(m.open[c.Intn(len(m.open))].stream)
		}
	case 8:
		b = readOf(c.Intn(8))
	default:
		if more := len(m.all) - m.known; more > 0 {
			b = insertsOf(1 + c.Intn(more))
		}
	}
	if c.Intn(60) == 0 {
		b = b[:c.Intn(len(b)+1)]
	}
	return b
}

// encoderSays: an instruction of an encoder, mostly one that may be.
func (c chance) encoderSays(m *modelDecoder) []byte {
	there := len(m.all) - m.oldest
	small := func(n int) int {
		if c.Intn(25) == 0 {
			return pick(c, n, n+1, 63, 1<<40, api.MaxNum)
		}
		return c.Intn(n + 1)
	}
	f := c.field()
	switch c.Intn(12) {
	case 0:
		return capacityOf(small(m.most))
	case 1, 2:
		return insertStatic(small(39), f.Value)
	case 3, 4:
		return insertDynamic(small(max(there-1, 0)), f.Value)
	case 5, 6, 7:
		return repeatOf(small(max(there-1, 0)))
	case 8:
		return pick(c, []byte{0x61, 0xff}, []byte{0xc1, 0x82, 0xff}, []byte{0xff, 0xff}, append([]byte{byte(c.Intn(256))}, bytes.Repeat([]byte{0xff}, c.Intn(11))...), capacityOf(m.most))
	}
	return insertOf(f.Name, f.Value)
}

// section: one with a need that may be, and lines of all kinds.
func (c chance) section(m *modelDecoder) []byte {
	need := max(len(m.all)+pick(c, 0, 0, 0, -1, 1, 2, c.Intn(9)-4), 0)
	coded := 0
	if m.most >= 32 && need > 0 {
		coded = need%(m.most/32*2) + 1
	}
	if c.Intn(20) == 0 {
		coded = pick(c, 0, 1, m.most/32*2, m.most/32*2+1, 255, api.MaxNum)
	}
	delta := pick(c, 0, 0, 0, 1, 2, -1, -2, -need, -need-1, 130)
	var lines []byte
	for range c.Intn(5) {
		lines = append(lines, c.line()...)
	}
	b := sectionOf(coded, delta, lines)
	switch c.Intn(30) {
	case 0:
		b = b[:c.Intn(len(b)+1)]
	case 1:
		b[c.Intn(len(b))] ^= 1 << c.Intn(8)
	case 2:
		b = append(b, bytes.Repeat([]byte{0xff}, c.Intn(12))...)
	}
	return b
}

// line: a line of any kind.
func (c chance) line() []byte {
	n, f := pick(c, 0, 0, 1, 2, c.Intn(12)), c.field()
	switch c.Intn(8) {
	case 0:
		return lineStatic(c.Intn(41))
	case 1, 2:
		return lineDynamic(n)
	case 3:
		return linePast(n)
	case 4:
		return lineStaticName(c.Intn(41), f.Value)
	case 5:
		return lineDynamicName(n, f.Value)
	case 6:
		return linePastName(n, f.Value)
	}
	return linePlain(f.Name, f.Value)
}

// lone: a decoder that is told anything, with its model.
type lone struct {
	chance
	d        *qpack.Decoder
	m        *modelDecoder
	fed      map[api.Errno]int
	sections map[string]int
	ready    map[api.Errno]int
}

// step: one call of both.
func (l *lone) step(t *testing.T) {
	switch l.Intn(10) {
	case 0, 1, 2, 3:
		var b []byte
		for range 1 + l.Intn(3) {
			b = append(b, l.encoderSays(l.m)...)
		}
		if l.Intn(3) == 0 {
			cut := l.Intn(len(b) + 1)
			wantFeed(t, l.d, b[:cut], l.m.feed(b[:cut]))
			b = b[cut:]
		}
		e := l.m.feed(b)
		wantFeed(t, l.d, b, e)
		l.fed[e]++
	case 4, 5, 6, 7:
		stream, b := l.stream(), l.section(l.m)
		want, wantWaits, wantE := l.m.section(stream, b)
		f, waits, e := l.d.Section(stream, b)
		if !slices.Equal(f, want) || waits != wantWaits || e != wantE {
			t.Fatalf("Section(%d, %x): %v, %t, %d; want %v, %t, %d", stream, b, f, waits, e, want, wantWaits, wantE)
		}
		l.sections[fmt.Sprint(waits, e)]++
	case 8:
		stream := l.stream()
		if e, want := l.d.Cancel(stream), l.m.cancel(stream); e != want {
			t.Fatalf("Cancel(%d): %d, want %d", stream, e, want)
		}
	case 9:
		wantOut(t, l.d, l.m.out)
		wantReady(t, l.d, l.m.ready...)
		for _, r := range l.m.ready {
			l.ready[r.Error]++
		}
		l.m.out, l.m.ready = nil, nil
	}
}

// P16.5 to P16.8: a decoder that is told anything, held call by call against the chapter's words.
func TestLivesOfDecoders(t *testing.T) {
	l := &lone{fed: map[api.Errno]int{}, sections: map[string]int{}, ready: map[api.Errno]int{}}
	for seed := range 4000 {
		l.chance = chance{rand.New(rand.NewSource(int64(seed)))}
		most, blocked, limit := pick(l.chance, 0, 40, 64, 70, 100, 136, 200, 500), pick(l.chance, 0, 1, 2, 5), pick(l.chance, 0, 40, 100, 150, 1000, 1<<20)
		l.d = decoder(t, most, blocked, limit)
		l.m = &modelDecoder{most: most, blocked: blocked, limit: limit}
		start := capacityOf(most)
		wantFeed(t, l.d, start, l.m.feed(start))
		for range 60 {
			l.step(t)
		}
		if t.Failed() {
			t.Fatalf("the seed %d", seed)
		}
	}
	wantSeen(t, l.fed, api.OK, api.ErrCapacity, api.ErrIndex, api.ErrSection)
	wantSeen(t, l.ready, api.OK, api.ErrSection, api.ErrLarge)
	for _, kind := range []string{"false 0", "true 0", "false 121", "false 162", "false 163", "false 151"} {
		if l.sections[kind] < 200 {
			t.Errorf("only %d sections are %s", l.sections[kind], kind)
		}
	}
}

// P1: any bytes at all, in any order of calls.
func TestAnyBytes(t *testing.T) {
	c := chance{rand.New(rand.NewSource(16))}
	for range 20000 {
		x, d := encoder(t, 200, 200), decoder(t, 200, 2, 200)
		d.Feed(capacityOf(200))
		x.Encode(0, c.fields())
		for range 4 {
			b := make([]byte, c.Intn(20))
			c.Read(b)
			x.Feed(b)
			d.Feed(b)
			d.Section(c.stream(), b)
			d.Section(c.stream(), append([]byte{0, 0}, b...))
			d.Cancel(int(c.Uint64()))
			x.Encode(int(c.Uint64()), c.fields())
		}
		x.Out()
		d.Out()
		d.Ready()
	}
}

package hframe_test

import (
	"math/rand"
	"slices"
	"testing"

	"turnpike/api"
	"turnpike/hframe"
)

// chance: choices of all kinds.
type chance struct{ *rand.Rand }

// pick: one of some.
func pick[T any](c chance, list ...T) T {
	return list[c.Intn(len(list))]
}

// bytes: any.
func (c chance) bytes(n int) []byte {
	b := make([]byte, n)
	c.Read(b)
	return b
}

// number: in a form that is mostly the shortest.
func (c chance) number(n int) []byte {
	form := short(n)
	if c.Intn(5) > 0 {
		return form
	}
	size := len(form) << c.Intn(4)
	return long(n, min(size, 8))
}

// value: a number at all bounds.
func (c chance) value() int {
	return pick(c, 0, 1, 5, 63, 64, 16383, 16384, 1<<30-1, 1<<30, api.MaxNum, c.Intn(1000))
}

// settings: a payload, mostly right.
func (c chance) settings() []byte {
	ids := []int{1, 7, 6, 33, 0, 64, 300, api.MaxNum}
	c.Shuffle(len(ids), func(i, j int) { ids[i], ids[j] = ids[j], ids[i] })
	ids = ids[:c.Intn(len(ids)+1)]
	switch c.Intn(12) {
	case 0:
		ids = append(ids, pick(c, 2, 3, 4, 5))
	case 1:
		ids = append(ids, pick(c, 1, 6, 7, 33, 64))
	}
	var b []byte
	for _, id := range ids {
		b = slices.Concat(b, c.number(id), c.number(c.value()))
	}
	if c.Intn(12) == 0 && len(b) > 0 {
		b = b[:len(b)-1]
	}
	return b
}

// payload: one for the type, mostly right.
func (c chance) payload(kind, limit int) []byte {
	switch kind {
	case 1:
		return c.bytes(min(c.Intn(limit+1)+c.Intn(20)/19, 2000))
	case 4:
		return c.settings()
	case 7, 13:
		if c.Intn(12) == 0 {
			return c.bytes(c.Intn(10))
		}
		return c.number(c.value())
	}
	return c.bytes(pick(c, 0, 1, 2, 10, 63, 64, c.Intn(300)))
}

// stream: frames in their order, mostly, with others among them.
func (c chance) stream(kind, limit int) []byte {
	order := []int{1, 0, 0, 0, 1}
	if kind == control {
		order = []int{4, 7, 13, 7}
	}
	var b []byte
	put := func(kind int) {
		p := c.payload(kind, limit)
		b = slices.Concat(b, c.number(kind), c.number(len(p)), p)
	}
	for i, kind := range order {
		if c.Intn(6) == 0 && (i > 0 || order[0] == 1) {
			put(pick(c, 10, 33, 64, 1<<14, c.Intn(1000)+14))
		}
		if c.Intn(12) == 0 {
			put(pick(c, 0, 1, 4, 7, 13, 2, 3, 5, 6, 8, 9))
		}
		if c.Intn(8) > 0 {
			put(kind)
		}
	}
	switch c.Intn(8) {
	case 0:
		b = b[:c.Intn(len(b)+1)]
	case 1:
		for range 3 {
			if len(b) > 0 {
				b[c.Intn(len(b))] = byte(c.Intn(256))
			}
		}
	}
	return b
}

// live reads a stream in pieces, asking at any time, and holds each answer against the model's.
func live(t *testing.T, c chance, r *hframe.Reader, m *model, b []byte) {
	t.Helper()
	for step := 0; len(b) > 0 || !m.done && step < 10000; step++ {
		if c.Intn(3) == 0 || len(b) > 0 && step > 2000 {
			n := min(len(b), pick(c, 0, 1, 2, 5, 40, 1000))
			if e, want := r.Feed(b[:n]), m.feed(b[:n]); e != want {
				t.Fatalf("Feed: %d, want %d", e, want)
			}
			b = b[n:]
		}
		if c.Intn(2) == 0 && !wantAsModel(t, r, m) {
			break
		}
		if (len(b) == 0 || c.Intn(200) == 0) && c.Intn(4) == 0 {
			if e, want := r.End(), m.end(); e != want {
				t.Fatalf("End: %d, want %d", e, want)
			}
		}
	}
	for range 3 {
		wantAsModel(t, r, m)
	}
}

// wantAsModel asks Next and Done, and says whether there is no error yet.
func wantAsModel(t *testing.T, r *hframe.Reader, m *model) bool {
	t.Helper()
	ev, ok, e := r.Next()
	want, wantOK, wantE := m.next()
	if !same(ev, want) || ok != wantOK || e != wantE || r.Done() != m.done {
		t.Fatalf("a stream %d (limit %d) of %x: Next %v, %t, %d; want %v, %t, %d; Done %t", m.kind, m.limit, m.all, ev, ok, e, want, wantOK, wantE, r.Done())
	}
	return e == api.OK
}

// P17.2 to P17.4: streams of all kinds in pieces of all kinds, held call by call against the chapter's words.
func TestLivesOfReaders(t *testing.T) {
	counts := map[api.Errno]int{}
	done := 0
	for seed := range 12000 {
		c := chance{rand.New(rand.NewSource(int64(seed)))}
		kind, limit := pick(c, request, control), pick(c, 0, 1, 10, 100, 1000)
		m := &model{kind: kind, limit: limit}
		r := made(t, kind, limit)
		live(t, c, r, m, c.stream(kind, limit))
		_, _, e := m.next()
		counts[e]++
		if r.Done() {
			done++
		}
		if t.Failed() {
			t.Fatalf("the seed %d", seed)
		}
	}
	for _, e := range []api.Errno{api.ErrUnexpected, api.ErrSettings, api.ErrCritical, api.ErrLarge, api.ErrLength, api.ErrShort, api.ErrMissing} {
		if counts[e] < 20 {
			t.Errorf("only %d streams ended with %d", counts[e], e)
		}
	}
	if done < 2000 {
		t.Errorf("only %d streams were done", done)
	}
}

// P1, P17.3: any bytes.
func TestLivesOfNoise(t *testing.T) {
	for seed := range 12000 {
		c := chance{rand.New(rand.NewSource(int64(seed)))}
		kind, limit := pick(c, request, control), pick(c, 0, 10, 1<<20)
		b := c.bytes(c.Intn(60))
		for i := range b {
			if c.Intn(3) > 0 {
				b[i] = byte(pick(c, 0, 1, 2, 4, 6, 7, 13, 33, 64))
			}
		}
		r := made(t, kind, limit)
		live(t, c, r, &model{kind: kind, limit: limit}, b)
	}
}

// P1, P17.3: all streams of up to five bytes out of those that say something.
func TestAllShortStreams(t *testing.T) {
	alphabet := []byte{0, 1, 2, 4, 7, 13, 33, 64}
	for _, kind := range []int{request, control} {
		streams := [][]byte{nil}
		for range 6 {
			var longer [][]byte
			for _, b := range streams {
				m := &model{kind: kind, limit: 1, all: b}
				r := made(t, kind, 1)
				feed(t, r, b)
				for range 4 {
					wantAsModel(t, r, m)
				}
				m.over = true
				end(t, r)
				wantAsModel(t, r, m)
				for _, last := range alphabet {
					longer = append(longer, append(slices.Clone(b), last))
				}
			}
			streams = longer
		}
	}
}

// P1, P17.3: all streams of two bytes.
func TestAllStreamsOfTwoBytes(t *testing.T) {
	for _, kind := range []int{request, control} {
		for n := range 1 << 16 {
			b := []byte{byte(n >> 8), byte(n)}
			m := &model{kind: kind, limit: 1, all: b}
			r := made(t, kind, 1)
			feed(t, r, b)
			wantAsModel(t, r, m)
			m.over = true
			end(t, r)
			wantAsModel(t, r, m)
		}
	}
}

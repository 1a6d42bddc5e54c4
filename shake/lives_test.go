package shake_test

import (
	"math/rand"
	"slices"
	"testing"

	"turnpike/api"
	"turnpike/prim"
	"turnpike/shake"
)

// randomTalk: what the other side may say to a side, most of it right.
func randomTalk(r *rand.Rand, c shake.Config) []shake.Flight {
	other := randomConfig(r, !c.Server)
	public := prim.Public(other.Private)
	if c.Server {
		if r.Intn(8) > 0 {
			other.Protos[r.Intn(len(other.Protos))] = c.Protos[r.Intn(len(c.Protos))]
		}
		return clientSays(c, public, other.Protos, other.Params)
	}
	proto := c.Protos[r.Intn(len(c.Protos))]
	if r.Intn(8) == 0 {
		proto = "zz"
	}
	return serverSays(c, public, proto, other.Params)
}

// spoilt: messages of which something is changed.
func spoilt(r *rand.Rand, talk []shake.Flight) []shake.Flight {
	i := r.Intn(len(talk))
	f := &talk[i]
	at := r.Intn(len(f.Data))
	switch r.Intn(8) {
	case 0:
		f.Data[at] ^= 1 << r.Intn(8)
	case 1:
		f.Data = slices.Delete(f.Data, at, at+1)
	case 2:
		f.Data = slices.Insert(f.Data, at, byte(r.Intn(256)))
	case 3:
		f.Level = 1 - f.Level
	case 4:
		talk = slices.Insert(talk, r.Intn(len(talk)+1), *f)
	case 5:
		talk = slices.Delete(talk, i, i+1)
	case 6:
		talk = append(talk, shake.Flight{Level: r.Intn(2), Data: run(r.Intn(5), 20)})
	case 7:
		f.Data = message(int(f.Data[0]), f.Data[4:4+r.Intn(len(f.Data)-3)], run(r.Intn(3), 0))
	}
	return talk
}

// live feeds messages to a side in pieces, some of them across messages of one level, and asks between them; it tells which errors came.
func live(t *testing.T, r *rand.Rand, c shake.Config, talk []shake.Flight, met map[api.Errno]int) {
	t.Helper()
	p := newSide(t, c)
	most := 1 + r.Intn(200)
	for len(talk) > 0 {
		f := talk[0]
		talk = talk[1:]
		for len(talk) > 0 && talk[0].Level == f.Level && r.Intn(2) == 0 {
			f.Data = slices.Concat(f.Data, talk[0].Data)
			talk = talk[1:]
		}
		for data := f.Data; len(data) > 0; {
			n := min(1+r.Intn(most), len(data))
			e := p.m.feed(f.Level, data[:n])
			if got := p.s.Feed(f.Level, data[:n]); got != e {
				t.Fatalf("server %v, Feed(%d, %x): %d; want %d", c.Server, f.Level, data[:n], got, e)
			}
			met[e]++
			data = data[n:]
			p.look()
			switch r.Intn(6) {
			case 0:
				p.out()
			case 1:
				level := r.Intn(4) - 1
				p.feed(level, nil, p.copied().feed(level, nil))
			}
		}
	}
	p.out()
}

// P10.2 to P10.5: many lives of both sides, most of them with something wrong, held against the chapter's words.
func TestLives(t *testing.T) {
	r := rand.New(rand.NewSource(29))
	met := map[api.Errno]int{}
	for i := range 10000 {
		c := randomConfig(r, i%2 == 0)
		talk := randomTalk(r, c)
		for range r.Intn(3) {
			if len(talk) > 0 && !slices.ContainsFunc(talk, func(f shake.Flight) bool { return len(f.Data) < 4 }) {
				talk = spoilt(r, talk)
			}
		}
		live(t, r, c, talk, met)
	}
	for _, e := range []api.Errno{api.OK, api.ErrMessage, api.ErrLevel, api.ErrAlpn, api.ErrFinished, api.ErrState, api.ErrHuge} {
		if met[e] < 50 {
			t.Errorf("the error %d came %d times", e, met[e])
		}
	}
}

// P1: any bytes at any levels, held against the chapter's words.
func TestAnyBytes(t *testing.T) {
	r := rand.New(rand.NewSource(30))
	for i := range 3000 {
		p := newSide(t, configOf(i%2 == 0))
		for range 1 + r.Intn(10) {
			data := make([]byte, r.Intn(50))
			r.Read(data)
			if kind, _ := p.m.due(); len(data) > 4 && r.Intn(4) > 0 {
				copy(data, message(kind, make([]byte, r.Intn(60))))
			}
			level := r.Intn(5) - 1
			p.feed(level, data, p.copied().feed(level, data))
		}
		p.out()
	}
}

// copied: the model once more, to be asked ahead of a Feed.
func (p *side) copied() *model {
	m := *p.m
	m.begun, m.said, m.out = slices.Clone(m.begun), slices.Clone(m.said), slices.Clone(m.out)
	return &m
}

package shake_test

import (
	"bytes"
	"slices"
	"testing"

	"turnpike/api"
	"turnpike/shake"
)

// roomy: the same bytes with spare room behind them, that is filled.
func roomy(b []byte) []byte {
	whole := append(slices.Clone(b), bytes.Repeat([]byte{0x99}, 40)...)
	return whole[:len(b)]
}

// spoil writes over lists and their spare room.
func spoil(lists ...[]byte) {
	for _, b := range lists {
		b = b[:cap(b)]
		for i := range b {
			b[i] ^= 0xff
		}
	}
}

// P10.6: a config stays as it is, its spare room too, and nothing of it is kept.
func TestConfigIsNotKept(t *testing.T) {
	for _, server := range sides() {
		c := configOf(server)
		want := newModel(configOf(server))
		protos := append(slices.Clone(c.Protos), "spare", "room")
		c.Protos, c.Params = protos[:len(c.Protos)], roomy(c.Params)
		beforeProtos, beforeParams := slices.Clone(protos), slices.Clone(c.Params[:cap(c.Params)])
		unchanged := func() {
			t.Helper()
			if !slices.Equal(protos, beforeProtos) || !bytes.Equal(c.Params[:cap(c.Params)], beforeParams) {
				t.Fatalf("server %v: the config was changed: %q, %q", server, protos, c.Params[:cap(c.Params)])
			}
		}
		whole, _ := shake.New(c)
		for _, f := range heard(configOf(server)) {
			whole.Feed(f.Level, f.Data)
			for _, told := range whole.Out() {
				spoil(told.Data)
			}
			unchanged()
		}
		s, _ := shake.New(c)
		unchanged()
		spoil(c.Params)
		for i := range protos {
			protos[i] = "gone"
		}
		p := &side{t, s, want}
		p.feedAll(heard(configOf(server)))
		p.out()
	}
}

// P10.6: what is fed stays as it is, its spare room too, and nothing of it is kept, in pieces of any size, taken or refused.
func TestFedIsNotKept(t *testing.T) {
	for _, server := range sides() {
		for _, size := range []int{1, 3, 4, 5, 20, 5000} {
			p := newSide(t, configOf(server))
			for _, f := range append(heard(p.m.own), shake.Flight{Level: 0, Data: []byte{1, 2, 3}}) {
				for piece := range slices.Chunk(f.Data, size) {
					piece = roomy(piece)
					before := slices.Clone(piece[:cap(piece)])
					p.feed(f.Level, piece, p.copied().feed(f.Level, slices.Clone(piece)))
					if !bytes.Equal(piece[:cap(piece)], before) {
						t.Fatalf("server %v: what was fed was changed", server)
					}
					spoil(piece)
					p.look()
				}
			}
			p.out()
		}
	}
}

// tellers: lists that a side tells, and that it may be asked for again.
func tellers(s *shake.Shake) [][]byte {
	hand, _ := s.Hand()
	app, _ := s.App()
	return [][]byte{hand.Client, hand.Server, app.Client, app.Server, s.Peer()}
}

// P10.6: what is told is new memory each time, shares none within an answer, and the side goes on as if it had not been written over.
func TestToldIsNew(t *testing.T) {
	everyStand(t, func(server bool, taken int, all []shake.Flight) {
		p, _ := behind(t, server, taken)
		first, second := tellers(p.s), tellers(p.s)
		for i, list := range first {
			want := slices.Clone(list)
			spoil(second[i])
			if !bytes.Equal(list, want) {
				t.Errorf("server %v, list %d: two answers share memory", server, i)
			}
		}
		for i := range first {
			want := slices.Concat(first[i+1:]...)
			spoil(first[i])
			if !bytes.Equal(slices.Concat(first[i+1:]...), want) {
				t.Errorf("server %v, list %d shares memory with another", server, i)
			}
		}
		p.look()
		p.feedAll(all[taken:])
		p.out()
	})
}

// P10.6: flights are new memory, none shares any with another, and writing over them changes nothing of the handshake.
func TestFlightsAreNew(t *testing.T) {
	everyStand(t, func(server bool, taken int, all []shake.Flight) {
		p, _ := behind(t, server, taken)
		out := p.s.Out()
		if !sameFlights(out, p.m.tellOut()) {
			t.Fatalf("Out: %x", out)
		}
		for i := range out {
			var want [][]byte
			for _, f := range out[i+1:] {
				want = append(want, slices.Clone(f.Data))
			}
			spoil(out[i].Data)
			for k, f := range out[i+1:] {
				if !bytes.Equal(f.Data, want[k]) {
					t.Errorf("server %v: two flights share memory", server)
				}
			}
		}
		out = out[:cap(out)]
		for i := range out {
			out[i] = shake.Flight{Level: 9, Data: []byte("gone")}
		}
		p.feedAll(all[taken:])
		p.out()
	})
}

// What a call answers hangs on its own side alone: two that are fed at the same time don't meet.
func TestSidesAreApart(t *testing.T) {
	all := heard(serverConfig())
	a, b := newSide(t, serverConfig()), newSide(t, serverConfig())
	a.feed(0, all[0].Data[:10], api.OK)
	b.feed(0, all[0].Data, api.OK)
	a.feed(0, all[0].Data[10:], api.OK)
	b.feed(1, []byte{1, 0, 0, 0}, api.ErrMessage)
	a.feed(1, all[1].Data, api.OK)
	wantEnded(b)
	a.out()
	if !a.s.Done() || b.s.Done() {
		t.Errorf("Done: %v, %v", a.s.Done(), b.s.Done())
	}
}

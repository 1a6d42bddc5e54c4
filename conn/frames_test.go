package conn_test

import (
	"math/rand"
	"testing"

	"turnpike/api"
	"turnpike/conn"
	"turnpike/frame"
)

// anyNumber: small ones mostly, and now and then any.
func anyNumber(r *rand.Rand) int {
	switch r.Intn(12) {
	case 0:
		return r.Intn(1 << 20)
	case 1:
		return api.MaxNum - r.Intn(3)
	}
	return r.Intn(12)
}

// rightFrame: a frame that can be, of a rogue that plays a side and has heard packets up to a number; its streams end at 30.
func rightFrame(r *rand.Rand, side, high int) frame.Frame {
	both := r.Intn(3)<<2 | side
	some := []int{both, both, r.Intn(2)<<2 | 2 | side}[r.Intn(3)]
	at := r.Intn(31)
	data := bytesOf(r.Intn(31 - at))
	code := anyNumber(r)
	to := r.Intn(high + 1)
	return []frame.Frame{
		{Kind: 0, N: 1 + r.Intn(30)},
		{Kind: 1},
		{Kind: 2, Spans: []api.Span{{From: r.Intn(to + 1), To: to}}, Delay: code},
		{Kind: 3, Spans: []api.Span{{From: 0, To: high}}, Delay: code},
		{Kind: 4, ID: some, N: 30, Code: code},
		{Kind: 5, ID: both, Code: code},
		{Kind: 8, ID: some, At: at, Data: data, Fin: at+len(data) == 30},
		{Kind: 8, ID: some, At: at, Data: data, Fin: at+len(data) == 30},
		{Kind: 16, N: code},
		{Kind: 17, ID: both, N: code},
		{Kind: 18, N: r.Intn(20)},
		{Kind: 19, N: r.Intn(20)},
		{Kind: 20, N: code},
		{Kind: 21, ID: some, N: code},
		{Kind: 22, N: r.Intn(20)},
		{Kind: 24, N: 1, Cid: bytesOf(8), Data: bytesOf(16)},
		{Kind: 26, Data: bytesOf(8)},
		{Kind: 27, Data: bytesOf(8)},
	}[r.Intn(18)]
}

// anyFrame: a frame of any kind, with any fields.
func anyFrame(r *rand.Rand) frame.Frame {
	return frame.Frame{
		Kind: r.Intn(31), ID: anyNumber(r), At: anyNumber(r), N: anyNumber(r), Code: anyNumber(r), Fin: r.Intn(2) == 0, Delay: anyNumber(r),
		Data: bytesOf(r.Intn(20)), Cid: bytesOf(8), Spans: []api.Span{{From: 0, To: anyNumber(r)}},
	}
}

// anyCall: the connection is asked for something.
func anyCall(r *rand.Rand, x *conn.Conn) {
	id := r.Intn(16)
	switch r.Intn(9) {
	case 0:
		x.Open(r.Intn(2) == 0)
	case 1, 2:
		x.Write(id, bytesOf(r.Intn(3000)))
	case 3:
		x.Finish(id)
	case 4, 5:
		x.Read(id, r.Intn(100))
	case 6:
		x.Reset(id, anyNumber(r)-1)
	case 7:
		x.Stop(id, anyNumber(r)-1)
	case 8:
		x.Events()
	}
}

// P12.2, P12.5: any frames in any packets, with any calls between them: no call panics, what is sent can be read and has its size, and who is closed with stays so.
func TestAnyFrames(t *testing.T) {
	closed, lasted := 0, 0
	for seed := range int64(1000) {
		r := rand.New(rand.NewSource(seed))
		side := int(seed % 2)
		g := openRogue(t, side)
		for i := range 40 {
			g.now += r.Intn(1 + r.Intn(300))
			place := third
			if r.Intn(200) == 0 {
				place = r.Intn(3)
			}
			var payload []byte
			for range 1 + r.Intn(4) {
				f := rightFrame(r, side, g.high[third])
				if r.Intn(200) == 0 {
					f = anyFrame(r)
				}
				if b, e := frame.Encode(f); e == api.OK {
					payload = append(payload, b...)
				}
			}
			g.x.Receive(g.packet(place, payload), g.now)
			for range r.Intn(4) {
				anyCall(r, g.x)
			}
			if at, ok := g.x.Timer(); ok && at <= g.now {
				g.x.Tick(g.now)
			}
			g.hear()
			if i == 39 && g.x.State() == conn.Open {
				lasted++
			}
		}
		if s := g.x.State(); s == conn.Closing || s == conn.Gone {
			closed++
			if _, e := g.x.Open(true); e != api.ErrClosed {
				t.Fatalf("Open: %d", e)
			}
		}
	}
	if closed < 100 || lasted < 100 {
		t.Errorf("%d were closed, %d lasted", closed, lasted)
	}
}

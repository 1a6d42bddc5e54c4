package hframe_test

import (
	"bytes"
	"math"
	"math/rand"
	"testing"

	"turnpike/api"
	"turnpike/hframe"
)

// wantBytes asks for what was written.
func wantBytes(t *testing.T, what string, b []byte, e api.Errno, want []byte, wantE api.Errno) {
	t.Helper()
	if !bytes.Equal(b, want) || e != wantE {
		t.Errorf("%s: %.40x, %d; want %.40x, %d", what, b, e, want, wantE)
	}
}

// formless are numbers that no form holds.
var formless = []int{-1, -2, math.MinInt, -api.MaxNum, api.MaxNum + 1, api.MaxNum + 2, math.MaxInt}

// formed are numbers at the bounds of the forms.
var formed = []int{0, 1, 2, 4, 7, 13, 33, 63, 64, 255, 256, 16383, 16384, 1<<30 - 1, 1 << 30, 1 << 32, api.MaxNum - 1, api.MaxNum}

// P17.5
func TestFrame(t *testing.T) {
	b, e := hframe.Frame(1, []byte("ab"))
	wantBytes(t, "Frame", b, e, unhex(t, "01 02 6162"), api.OK)
	b, e = hframe.Frame(0, nil)
	wantBytes(t, "Frame", b, e, unhex(t, "00 00"), api.OK)
	b, e = hframe.Frame(64, []byte{})
	wantBytes(t, "Frame", b, e, unhex(t, "4040 00"), api.OK)
	for _, kind := range formed {
		for _, length := range []int{0, 1, 2, 63, 64, 16383, 16384, 1<<20 - 1, 1 << 20} {
			payload := bytes.Repeat([]byte{0x61}, length)
			b, e := hframe.Frame(kind, payload)
			wantBytes(t, "Frame", b, e, framed(kind, payload), api.OK)
		}
	}
}

// P17.5: kinds that are no numbers, and payloads that are too long; the kind is named first.
func TestFrameRefuses(t *testing.T) {
	for _, length := range []int{0, 1, 1 << 20, 1<<20 + 1, 1 << 21} {
		payload := make([]byte, length)
		for _, kind := range formless {
			b, e := hframe.Frame(kind, payload)
			wantBytes(t, "Frame", b, e, nil, api.ErrNumber)
		}
		if length > 1<<20 {
			for _, kind := range formed {
				b, e := hframe.Frame(kind, payload)
				wantBytes(t, "Frame", b, e, nil, api.ErrHuge)
			}
		}
	}
}

// P17.5: each setting, those alone that are not as usual, in their order.
func TestPutSettings(t *testing.T) {
	for _, c := range []struct {
		s    hframe.Settings
		want string
	}{
		{settings(5, 0, -1), "04 02 01 05"},
		{settings(0, 0, -1), "04 00"},
		{settings(0, 6, -1), "04 02 07 06"},
		{settings(0, 0, 7), "04 02 06 07"},
		{settings(0, 0, 0), "04 02 06 00"},
		{settings(5, 6, 7), "04 06 01 05 07 06 06 07"},
		{settings(5, 6, -1), "04 04 01 05 07 06"},
		{settings(5, 0, 7), "04 04 01 05 06 07"},
		{settings(0, 6, 7), "04 04 07 06 06 07"},
		{settings(1, 1, 0), "04 06 01 01 07 01 06 00"},
		{settings(64, 16384, 1<<30), "04 11 01 4040 07 80004000 06 c000000040000000"},
		{settings(api.MaxNum, api.MaxNum, api.MaxNum), "04 1b 01 ffffffffffffffff 07 ffffffffffffffff 06 ffffffffffffffff"},
	} {
		b, e := hframe.PutSettings(c.s)
		wantBytes(t, "PutSettings", b, e, unhex(t, c.want), api.OK)
	}
}

// P17.5: each number below its bound, and above MaxNum, whatever the others are.
func TestPutSettingsRefuses(t *testing.T) {
	for _, n := range formless {
		for _, other := range []int{0, 5, api.MaxNum} {
			all := []hframe.Settings{settings(n, other, other), settings(other, n, other), settings(n, n, n), settings(n, other, -1), settings(other, n, -1)}
			if n != -1 {
				all = append(all, settings(other, other, n))
			}
			for _, s := range all {
				b, e := hframe.PutSettings(s)
				wantBytes(t, "PutSettings", b, e, nil, api.ErrNumber)
			}
		}
	}
}

// P17.5
func TestPutGoaway(t *testing.T) {
	for _, c := range []struct {
		id   int
		want string
	}{{0, "07 01 00"}, {4, "07 01 04"}, {63, "07 01 3f"}, {64, "07 02 4040"}, {16384, "07 04 80004000"}, {1 << 30, "07 08 c000000040000000"}, {api.MaxNum, "07 08 ffffffffffffffff"}} {
		b, e := hframe.PutGoaway(c.id)
		wantBytes(t, "PutGoaway", b, e, unhex(t, c.want), api.OK)
	}
	for _, id := range formless {
		b, e := hframe.PutGoaway(id)
		wantBytes(t, "PutGoaway", b, e, nil, api.ErrNumber)
	}
}

// P17.3, P17.5: what was written is read back.
func TestReadBack(t *testing.T) {
	ok := func(b []byte, e api.Errno) []byte {
		if e != api.OK {
			t.Fatalf("refused: %d", e)
		}
		return b
	}
	for _, capacity := range formed {
		for _, blocked := range formed {
			for _, limit := range append([]int{-1}, formed...) {
				r := made(t, control, 0)
				feed(t, r, ok(hframe.PutSettings(settings(capacity, blocked, limit))))
				wantEvent(t, r, settled(capacity, blocked, limit))
				feed(t, r, ok(hframe.PutGoaway(capacity)))
				feed(t, r, ok(hframe.Frame(13, short(limit+1))))
				feed(t, r, ok(hframe.Frame(33, short(limit+1))))
				feed(t, r, ok(hframe.PutGoaway(blocked)))
				wantEvent(t, r, goaway(capacity))
				wantEvent(t, r, goaway(blocked))
				wantNone(t, r, api.OK)
			}
		}
	}
	rng := rand.New(rand.NewSource(1))
	for _, length := range []int{0, 1, 63, 64, 16383, 16384, 1 << 20} {
		text := make([]byte, length)
		rng.Read(text)
		r := made(t, request, 1<<20)
		feed(t, r, ok(hframe.Frame(1, text)))
		feed(t, r, ok(hframe.Frame(33, text)))
		feed(t, r, ok(hframe.Frame(0, text)))
		feed(t, r, ok(hframe.Frame(1, text)))
		end(t, r)
		wantEvent(t, r, headers(string(text)))
		if length > 0 {
			wantEvent(t, r, data(string(text)))
		}
		wantEvent(t, r, headers(string(text)))
		wantNone(t, r, api.OK)
		wantDone(t, r, true)
	}
}

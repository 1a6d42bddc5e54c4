package header_test

import (
	"bytes"
	"math"
	"math/rand"
	"slices"
	"testing"

	"turnpike/api"
	"turnpike/header"
)

// built: the kinds that Build writes.
func built() []int {
	return []int{header.Initial, header.Early, header.Handshake, header.Short}
}

// P6.2: every kind that is written, in every width.
func TestBuildEveryKind(t *testing.T) {
	dst, src := []byte{1, 2}, []byte{3}
	for width := 1; width <= 4; width++ {
		for _, c := range []struct {
			h     header.Header
			first byte
			b     string
		}{
			{header.Header{Kind: header.Initial, Dst: dst, Src: src, Token: []byte{7, 8, 9}, Length: 30}, 0xc0, "00000001 02 0102 01 03 03 070809 401e"},
			{header.Header{Kind: header.Initial, Length: 1200}, 0xc0, "00000001 00 00 00 44b0"},
			{header.Header{Kind: header.Early, Dst: dst, Src: src, Length: 30}, 0xd0, "00000001 02 0102 01 03 401e"},
			{header.Header{Kind: header.Handshake, Dst: dst, Src: src, Length: 30}, 0xe0, "00000001 02 0102 01 03 401e"},
			{header.Header{Kind: header.Short, Dst: dst}, 0x40, "0102"},
			{header.Header{Kind: header.Short}, 0x40, ""},
		} {
			wantBuilt(t, c.h, width, append([]byte{c.first + byte(width-1)}, unhex(t, c.b)...))
		}
	}
}

// P6.2: a Kind that is not written is told ahead of all else.
func TestBuildKind(t *testing.T) {
	for _, kind := range []int{math.MinInt, -1, 0, header.Retry, header.Negotiate, header.Other, 8, 9, 16, 257, 1 << 32, math.MaxInt} {
		for _, width := range []int{math.MinInt, -1, 0, 1, 4, 5, math.MaxInt} {
			for _, n := range []int{0, 1, api.MaxCid, api.MaxCid + 1, api.MaxData + 1} {
				h := header.Header{Kind: kind, Version: 1, Dst: make([]byte, n), Src: make([]byte, n), Token: make([]byte, n), Length: n}
				wantUnbuilt(t, h, width, api.ErrKind)
			}
		}
	}
}

// P6.2: a width from 1 to 4, told ahead of the ids.
func TestBuildWidth(t *testing.T) {
	for _, kind := range built() {
		for _, width := range []int{math.MinInt, math.MinInt + 1, -4, -1, 0, 5, 6, 8, 257, 1<<32 + 1, math.MaxInt} {
			for _, n := range []int{0, 1, api.MaxCid + 1, api.MaxData + 1} {
				h := header.Header{Kind: kind, Dst: make([]byte, n), Src: make([]byte, n), Token: make([]byte, n), Length: n}
				wantUnbuilt(t, h, width, api.ErrNumber)
			}
		}
	}
}

// P6.2: Dst and Src of 0 to MaxCid bytes, and of more, told ahead of Token and Length; a short one's Src is not looked at.
func TestBuildIds(t *testing.T) {
	for _, kind := range built() {
		for _, d := range []int{0, 1, 19, 20, 21, 22, 256, 300} {
			for _, s := range []int{0, 1, 19, 20, 21, 22, 256, 300} {
				h := header.Header{Kind: kind, Dst: bytes.Repeat([]byte{1}, d), Src: bytes.Repeat([]byte{2}, s), Length: 5}
				if d > api.MaxCid || s > api.MaxCid && kind != header.Short {
					wantUnbuilt(t, h, 1, api.ErrCid)
					h.Token, h.Length = make([]byte, api.MaxData+1), 0
					wantUnbuilt(t, h, 4, api.ErrCid)
					continue
				}
				b, e := header.Build(h, 1)
				want := h
				want.Version, want.Length = 1, 5
				if kind == header.Short {
					want.Version, want.Src, want.Length = 0, nil, 5
				}
				wantHeader(t, append(b, 1, 2, 3, 4, 5), d, want, len(b), len(b)+5)
				if e != api.OK {
					t.Errorf("Build with ids of %d and %d bytes: %d", d, s, e)
				}
			}
		}
	}
}

// P6.2: Token of none, of MaxData bytes and of more, its length in the shortest form; told ahead of Length; only an Initial has one.
func TestBuildToken(t *testing.T) {
	for _, c := range []struct {
		n    int
		form string
	}{{0, "00"}, {1, "01"}, {63, "3f"}, {64, "4040"}, {16383, "7fff"}, {16384, "80004000"}} {
		token := bytes.Repeat([]byte{0xab}, c.n)
		want := slices.Concat(unhex(t, "c0 00000001 00 00"), unhex(t, c.form), token, []byte{0x40, 1})
		wantBuilt(t, header.Header{Kind: header.Initial, Token: token, Length: 1}, 1, want)
		wantUnbuilt(t, header.Header{Kind: header.Initial, Token: token}, 1, api.ErrLength)
	}
	for _, n := range []int{api.MaxData + 1, api.MaxData + 2, 3 * api.MaxData} {
		for _, length := range []int{math.MinInt, -1, 0, 1, api.MaxData, api.MaxData + 1} {
			wantUnbuilt(t, header.Header{Kind: header.Initial, Token: make([]byte, n), Length: length}, 1, api.ErrHuge)
		}
		token := make([]byte, n)
		wantBuilt(t, header.Header{Kind: header.Early, Token: token, Length: 1}, 1, unhex(t, "d0 00000001 00 00 4001"))
		wantBuilt(t, header.Header{Kind: header.Handshake, Token: token, Length: 1}, 1, unhex(t, "e0 00000001 00 00 4001"))
		wantBuilt(t, header.Header{Kind: header.Short, Token: token}, 1, []byte{0x40})
	}
}

// P6.2: Length from 1 to MaxData in a long header, in two bytes below 2^14, in four at 2^14; a short one's is not looked at.
func TestBuildLength(t *testing.T) {
	for _, c := range []struct {
		kind int
		head string
	}{{header.Initial, "c1 00000001 00 00 00"}, {header.Early, "d1 00000001 00 00"}, {header.Handshake, "e1 00000001 00 00"}} {
		for _, l := range []struct {
			n    int
			form string
		}{{1, "4001"}, {2, "4002"}, {62, "403e"}, {63, "403f"}, {64, "4040"}, {65, "4041"}, {255, "40ff"}, {256, "4100"}, {1<<14 - 2, "7ffe"}, {1<<14 - 1, "7fff"}, {1 << 14, "80004000"}, {api.MaxData, "80004000"}} {
			wantBuilt(t, header.Header{Kind: c.kind, Length: l.n}, 2, unhex(t, c.head+l.form))
		}
		for _, n := range []int{math.MinInt, -1 << 40, -2, -1, 0, api.MaxData + 1, api.MaxData + 2, 1 << 30, 1<<32 + 1, api.MaxNum, math.MaxInt} {
			wantUnbuilt(t, header.Header{Kind: c.kind, Length: n}, 2, api.ErrLength)
		}
	}
	for _, n := range []int{math.MinInt, -1, 0, 1, api.MaxData, api.MaxData + 1, math.MaxInt} {
		wantBuilt(t, header.Header{Kind: header.Short, Dst: []byte{6}, Length: n}, 3, []byte{0x42, 6})
	}
}

// P6.2: Version and Versions are not looked at.
func TestBuildVersion(t *testing.T) {
	for _, version := range []int{math.MinInt, -1, 0, 1, 2, 1 << 32, math.MaxInt} {
		h := header.Header{Kind: header.Handshake, Version: version, Versions: []int{version, 4}, Length: 9}
		wantBuilt(t, h, 1, unhex(t, "e0 00000001 00 00 4009"))
		h.Kind = header.Short
		wantBuilt(t, h, 1, []byte{0x40})
	}
}

// P6.1, P6.2: what is built is read again, and told to have the width.
func TestBuildAndParse(t *testing.T) {
	rng := rand.New(rand.NewSource(62))
	for range 20000 {
		h := header.Header{Kind: built()[rng.Intn(4)], Dst: make([]byte, rng.Intn(21)), Src: make([]byte, rng.Intn(21)), Token: make([]byte, rng.Intn(200)), Length: 1 + rng.Intn(300)}
		rng.Read(h.Dst)
		rng.Read(h.Src)
		rng.Read(h.Token)
		width := 1 + rng.Intn(4)
		b, e := header.Build(h, width)
		if e != api.OK || int(b[0]&0x0f) != width-1 {
			t.Fatalf("Build(%v, %d): %x, %d", h, width, b, e)
		}
		want := h
		want.Version = 1
		if h.Kind == header.Short {
			want.Version, want.Src = 0, nil
		}
		if h.Kind != header.Initial {
			want.Token = nil
		}
		wantHeader(t, append(b, make([]byte, h.Length)...), len(h.Dst), want, len(b), len(b)+h.Length)
	}
}

// P6.6: what is handed in stays as it is, its spare room too; what is told shares nothing with it.
func TestMemoryOfBuild(t *testing.T) {
	for _, kind := range built() {
		for _, width := range []int{1, 4, 5} {
			h := header.Header{Kind: kind, Dst: roomy([]byte{1, 2}), Src: roomy([]byte{3}), Token: roomy([]byte{4, 5}), Versions: []int{6}, Length: 7}
			lists := [][]byte{h.Dst, h.Src, h.Token}
			var before [][]byte
			for _, list := range lists {
				before = append(before, slices.Clone(list[:cap(list)]))
			}
			b, _ := header.Build(h, width)
			again, _ := header.Build(h, width)
			kept := slices.Clone(b)
			spoil(b)
			for i, list := range lists {
				if !bytes.Equal(list[:cap(list)], before[i]) {
					t.Errorf("Build of the kind %d changed what it was given", kind)
				}
				spoil(list)
			}
			if !bytes.Equal(again, kept) {
				t.Errorf("Build of the kind %d: an answer shares memory", kind)
			}
		}
	}
	given := roomy([]byte{9})
	b, _ := header.Build(header.Header{Kind: header.Short, Dst: given[:0]}, 1)
	spoil(b)
	if !bytes.Equal(given[:cap(given)], roomy([]byte{9})[:cap(given)]) {
		t.Errorf("Build writes into spare room")
	}
}

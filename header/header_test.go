package header_test

import (
	"bytes"
	"encoding/hex"
	"fmt"
	"slices"
	"strings"
	"testing"

	"turnpike/api"
	"turnpike/header"
)

// sample is a datagram of one packet, and what Parse reads of it.
type sample struct {
	b       string
	cid     int
	h       header.Header
	at, end int
}

// samples: ordinary packets of every Kind. What stands behind their headers is not looked at.
func samples() []sample {
	return []sample{
		{"c0 00000001 02 0102 01 03 02 aabb 03 778899", 0, header.Header{Kind: header.Initial, Version: 1, Dst: []byte{1, 2}, Src: []byte{3}, Token: []byte{0xaa, 0xbb}, Length: 3}, 14, 17},
		{"c3 00000001 00 00 00 4004 01020304 ffff", 7, header.Header{Kind: header.Initial, Version: 1, Length: 4}, 10, 14},
		{"d1 00000001 00 03 010203 02 0506", 1, header.Header{Kind: header.Early, Version: 1, Src: []byte{1, 2, 3}, Length: 2}, 11, 13},
		{"e1 00000001 02 0102 01 03 4003 000102", 20, header.Header{Kind: header.Handshake, Version: 1, Dst: []byte{1, 2}, Src: []byte{3}, Length: 3}, 12, 15},
		{"f0 00000001 01 07 02 0809 616263 000102030405060708090a0b0c0d0e0f", 0, header.Header{Kind: header.Retry, Version: 1, Dst: []byte{7}, Src: []byte{8, 9}, Token: []byte("abc")}, 13, 29},
		{"80 00000000 01 07 02 0809 00000001 ff00001d", 0, header.Header{Kind: header.Negotiate, Dst: []byte{7}, Src: []byte{8, 9}, Versions: []int{1, 0xff00001d}}, 18, 18},
		{"40 010203 0405", 3, header.Header{Kind: header.Short, Dst: []byte{1, 2, 3}, Length: 2}, 4, 6},
		{"7f 0405", 0, header.Header{Kind: header.Short, Length: 2}, 1, 3},
		{"c0 6b3343cf 01 07 02 0809 aabbcc", 4, header.Header{Kind: header.Other, Version: 0x6b3343cf, Dst: []byte{7}, Src: []byte{8, 9}}, 10, 13},
		{"80 ffffffff 00 00", 4, header.Header{Kind: header.Other, Version: 0xffffffff}, 7, 7},
	}
}

// unhex: bytes from digits, spaces among them.
func unhex(t *testing.T, digits string) []byte {
	t.Helper()
	b, err := hex.DecodeString(strings.ReplaceAll(digits, " ", ""))
	if err != nil {
		t.Fatal(err)
	}
	return b
}

// twos: n bytes as digits, none of them zero.
func twos(n int) string {
	return strings.Repeat("22", n)
}

// same: are two headers the same, nil and empty lists being one?
func same(a, b header.Header) bool {
	return a.Kind == b.Kind && a.Version == b.Version && a.Length == b.Length &&
		bytes.Equal(a.Dst, b.Dst) && bytes.Equal(a.Src, b.Src) && bytes.Equal(a.Token, b.Token) && slices.Equal(a.Versions, b.Versions)
}

// wantHeader asks Parse for a header and its places.
func wantHeader(t *testing.T, b []byte, cid int, h header.Header, at, end int) {
	t.Helper()
	if got, gotAt, gotEnd, e := header.Parse(b, cid); !same(got, h) || gotAt != at || gotEnd != end || e != api.OK {
		t.Errorf("Parse(%.60x, %d): %.300v, %d, %d, %d; want %.300v, %d, %d", b, cid, fmt.Sprint(got), gotAt, gotEnd, e, fmt.Sprint(h), at, end)
	}
}

// wantFault asks Parse, and Split where it comes to reading, for an error and nothing beside it.
func wantFault(t *testing.T, b []byte, cid int, e api.Errno) {
	t.Helper()
	if h, at, end, got := header.Parse(b, cid); !same(h, header.Header{}) || at != 0 || end != 0 || got != e {
		t.Errorf("Parse(%.60x, %d): %.300v, %d, %d, %d; want %d", b, cid, fmt.Sprint(h), at, end, got, e)
	}
	if len(b) > 0 && len(b) <= api.MaxData {
		wantNoPieces(t, b, cid, e)
	}
}

// wantNoPieces asks Split for an error and nothing beside it.
func wantNoPieces(t *testing.T, b []byte, cid int, e api.Errno) {
	t.Helper()
	if list, got := header.Split(b, cid); len(list) != 0 || got != e {
		t.Errorf("Split(%.60x, %d): %d pieces, %d; want %d", b, cid, len(list), got, e)
	}
}

// samePiece: are two pieces the same?
func samePiece(a, b header.Piece) bool {
	return same(a.Header, b.Header) && a.From == b.From && a.At == b.At && a.End == b.End
}

// wantPieces asks Split for pieces.
func wantPieces(t *testing.T, b []byte, cid int, list ...header.Piece) {
	t.Helper()
	if got, e := header.Split(b, cid); !slices.EqualFunc(got, list, samePiece) || e != api.OK {
		t.Errorf("Split(%.60x, %d): %.300v, %d; want %.300v", b, cid, fmt.Sprint(got), e, fmt.Sprint(list))
	}
}

// wantBuilt asks Build for bytes.
func wantBuilt(t *testing.T, h header.Header, width int, b []byte) {
	t.Helper()
	if got, e := header.Build(h, width); !bytes.Equal(got, b) || e != api.OK {
		t.Errorf("Build(%.200v, %d): %.60x, %d; want %.60x", fmt.Sprint(h), width, got, e, b)
	}
}

// wantUnbuilt asks Build for an error and nothing beside it.
func wantUnbuilt(t *testing.T, h header.Header, width int, e api.Errno) {
	t.Helper()
	if b, got := header.Build(h, width); len(b) != 0 || got != e {
		t.Errorf("Build(%.200v, %d): %.60x, %d; want %d", fmt.Sprint(h), width, b, got, e)
	}
}

// roomy: the same bytes with spare room behind them, that is filled.
func roomy(b []byte) []byte {
	whole := append(slices.Clone(b), bytes.Repeat([]byte{0x99}, 40)...)
	return whole[:len(b)]
}

// spoil changes all bytes, the spare room's too.
func spoil(b []byte) {
	b = b[:cap(b)]
	for i := range b {
		b[i] ^= 0x55
	}
}

// spoilHeader changes all that a header's lists hold.
func spoilHeader(h header.Header) {
	for _, list := range [][]byte{h.Dst, h.Src, h.Token} {
		spoil(list)
	}
	versions := h.Versions[:cap(h.Versions)]
	for i := range versions {
		versions[i] = -1
	}
}

// deep: the header with lists of its own.
func deep(h header.Header) header.Header {
	h.Dst, h.Src, h.Token, h.Versions = slices.Clone(h.Dst), slices.Clone(h.Src), slices.Clone(h.Token), slices.Clone(h.Versions)
	return h
}

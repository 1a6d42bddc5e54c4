package header_test

import (
	"bytes"
	"math"
	"slices"
	"testing"

	"turnpike/api"
	"turnpike/header"
)

// modelPieces: the pieces by the words of P6.3, each by P6.1.
func modelPieces(b []byte, cid int) []header.Piece {
	var list []header.Piece
	for from := 0; from < len(b); {
		h, at, end, e := model(b[from:], cid)
		if e != api.OK {
			break
		}
		list = append(list, header.Piece{Header: h, From: from, At: from + at, End: from + end})
		from += end
	}
	return list
}

// P6.3: nothing, as much as may be, and one more, ahead of what Parse finds.
func TestSplitSizes(t *testing.T) {
	for _, cid := range []int{0, 20, -1, 21, math.MinInt, math.MaxInt} {
		wantNoPieces(t, nil, cid, api.ErrShort)
		wantNoPieces(t, []byte{}, cid, api.ErrShort)
		for _, n := range []int{api.MaxData + 1, api.MaxData + 2, 4 * api.MaxData} {
			wantNoPieces(t, make([]byte, n), cid, api.ErrHuge)
			wantNoPieces(t, bytes.Repeat([]byte{0x40}, n), cid, api.ErrHuge)
		}
	}
	most := bytes.Repeat([]byte{0x40}, api.MaxData)
	wantPieces(t, most, 20, header.Piece{Header: header.Header{Kind: header.Short, Dst: most[:20], Length: api.MaxData - 21}, At: 21, End: api.MaxData})
	wantNoPieces(t, most, 21, api.ErrCid)
	wantNoPieces(t, make([]byte, api.MaxData), 0, api.ErrFixed)
	wantPieces(t, []byte{0x40}, 0, header.Piece{Header: header.Header{Kind: header.Short}, At: 1, End: 1})
}

// P6.3: an error of the first header is told, with a cid that can't be and with every other.
func TestSplitFirstFault(t *testing.T) {
	good := "d0 00000001 00 00 01 05"
	for _, c := range []struct {
		b   string
		cid int
		e   api.Errno
	}{
		{"40", 1, api.ErrShort}, {"00" + good, 0, api.ErrFixed}, {good, -1, api.ErrCid}, {good, 21, api.ErrCid},
		{"d0 00000001 15" + good, 0, api.ErrCid}, {"90 00000001 00 00 01 05" + good, 0, api.ErrFixed},
		{"d0 00000001 00 00 00" + good, 0, api.ErrLength}, {"d0 00000001 00 00 0b" + good, 0, api.ErrLength}, {"80 00000000 00 00 01", 0, api.ErrLength},
		{"f0 00000001 00 00" + good, 0, api.ErrShort},
	} {
		wantNoPieces(t, unhex(t, c.b), c.cid, c.e)
	}
}

// P6.3: packets one behind the other, with places that are counted from the beginning of the datagram.
func TestSplitSeveral(t *testing.T) {
	b := unhex(t, "c0 00000001 01 08 01 09 01 aa 02 0102"+"d3 00000001 00 00 01 03"+"e0 00000001 01 08 00 4002 0405"+"41 08 0607")
	initial := header.Piece{Header: header.Header{Kind: header.Initial, Version: 1, Dst: []byte{8}, Src: []byte{9}, Token: []byte{0xaa}, Length: 2}, From: 0, At: 12, End: 14}
	early := header.Piece{Header: header.Header{Kind: header.Early, Version: 1, Length: 1}, From: 14, At: 22, End: 23}
	handshake := header.Piece{Header: header.Header{Kind: header.Handshake, Version: 1, Dst: []byte{8}, Length: 2}, From: 23, At: 33, End: 35}
	short := header.Piece{Header: header.Header{Kind: header.Short, Dst: []byte{8}, Length: 2}, From: 35, At: 37, End: 39}
	wantPieces(t, b[:14], 1, initial)
	wantPieces(t, b[:23], 1, initial, early)
	wantPieces(t, b[:35], 1, initial, early, handshake)
	wantPieces(t, b, 1, initial, early, handshake, short)
	wantPieces(t, b[:36], 1, initial, early, handshake)
	wantPieces(t, b, 3, initial, early, handshake, header.Piece{Header: header.Header{Kind: header.Short, Dst: []byte{8, 6, 7}}, From: 35, At: 39, End: 39})
	wantPieces(t, b, 4, initial, early, handshake)
}

// P6.3: behind a packet whose end is the datagram's nothing is looked for.
func TestSplitEndsWithTheDatagram(t *testing.T) {
	ahead := "d0 00000001 00 00 01 03"
	behind := "d0 00000001 00 00 01 03 40 40"
	early := header.Piece{Header: header.Header{Kind: header.Early, Version: 1, Length: 1}, At: 8, End: 9}
	for _, c := range []struct {
		b  string
		h  header.Header
		at int
	}{
		{"41" + behind, header.Header{Kind: header.Short, Length: 11}, 1},
		{"c0 00000002 00 00" + behind, header.Header{Kind: header.Other, Version: 2}, 7},
		{"f0 00000001 00 00" + twos(10) + behind, header.Header{Kind: header.Retry, Version: 1, Token: unhex(t, twos(5))}, 12},
		{"80 00000000 00 00 40" + behind, header.Header{Kind: header.Negotiate, Versions: []int{0x40d00000, 0x00010000, 0x01034040}}, 19},
	} {
		b := unhex(t, c.b)
		wantPieces(t, b, 0, header.Piece{Header: c.h, At: c.at, End: len(b)})
		both := unhex(t, ahead+c.b)
		wantPieces(t, both, 0, early, header.Piece{Header: c.h, From: 9, At: 9 + c.at, End: len(both)})
	}
}

// P6.3: a packet behind which a header can't be read stays, whatever it is that can't.
func TestSplitBehindWhichNoHeaderIs(t *testing.T) {
	ahead := "e0 00000001 00 01 07 02 0304"
	first := header.Piece{Header: header.Header{Kind: header.Handshake, Version: 1, Src: []byte{7}, Length: 2}, At: 9, End: 11}
	second := first
	second.From, second.At, second.End = 11, 20, 22
	for _, behind := range []string{"00", "00000000", "3f" + twos(30), "40", "4001", "80", "c0 000000", "c0 00000001 15", "c0 00000001 00 15", "80 00000001 00 00 00", "d0 00000001 00 00 00", "d0 00000001 00 00 02 05", "80 00000000 00 00", "80 00000000 00 00 010203", "f0 00000001 00 00" + twos(15), "c0 00000001 00 00 05 01"} {
		wantPieces(t, unhex(t, ahead+behind), 2, first)
		wantPieces(t, unhex(t, ahead+ahead+behind), 2, first, second)
		wantPieces(t, unhex(t, ahead+behind+ahead), 20, modelPieces(unhex(t, ahead+behind+ahead), 20)...)
	}
}

// P6.3: as many packets as a datagram can hold.
func TestSplitMany(t *testing.T) {
	one := unhex(t, "d0 00000001 00 00 01 03")
	b := bytes.Repeat(one, api.MaxData/len(one))
	var want []header.Piece
	for from := 0; from < len(b); from += len(one) {
		want = append(want, header.Piece{Header: header.Header{Kind: header.Early, Version: 1, Length: 1}, From: from, At: from + 8, End: from + 9})
	}
	wantPieces(t, b, 0, want...)
	for len(b) < api.MaxData {
		b = append(b, 0)
	}
	wantPieces(t, b, 0, want...)
}

// P6.6: what is handed in stays as it is; pieces share memory neither with it nor with one another.
func TestMemoryOfSplit(t *testing.T) {
	part := "c0 00000001 02 0102 01 03 02 aabb 03 778899"
	tails := []string{"40 0102 03", "f0 00000001 01 07 01 08 55" + twos(16), "80 00000000 01 07 01 08 00000001 00000002", "c0 00000009 01 07 01 08 55"}
	for _, tail := range tails {
		given := roomy(unhex(t, part+part+tail))
		before := slices.Clone(given[:cap(given)])
		list, e := header.Split(given, 2)
		again, _ := header.Split(given, 2)
		want := modelPieces(slices.Clone(given), 2)
		for i := range want {
			want[i].Header = deep(want[i].Header)
		}
		if e != api.OK || len(list) != 3 || !bytes.Equal(given[:cap(given)], before) {
			t.Fatalf("Split of %s: %d pieces, %d; given after: %x", tail, len(list), e, given)
		}
		spoil(given)
		if !slices.EqualFunc(list, want, samePiece) {
			t.Errorf("Split of %s shares memory with what it was given", tail)
		}
		for i := range list {
			spoilHeader(list[i].Header)
			if !slices.EqualFunc(list[i+1:], want[i+1:], samePiece) {
				t.Errorf("Split of %s: piece %d shares memory with another", tail, i)
			}
		}
		clear(list[:cap(list)])
		if !slices.EqualFunc(again, want, samePiece) {
			t.Errorf("Split of %s: two answers share memory", tail)
		}
	}
}

package header_test

import (
	"bytes"
	"math"
	"math/rand"
	"slices"
	"testing"

	"turnpike/api"
	"turnpike/header"
)

// P6.1, P6.3: every Kind, with the fields that it has and its places, which Split tells alike.
func TestParseEveryKind(t *testing.T) {
	for _, s := range samples() {
		wantHeader(t, unhex(t, s.b), s.cid, s.h, s.at, s.end)
		wantPieces(t, unhex(t, s.b)[:s.end], s.cid, header.Piece{Header: s.h, At: s.at, End: s.end})
	}
}

// P6.1: what the chapter's examples say.
func TestParseExamples(t *testing.T) {
	wantHeader(t, []byte{0x40}, 0, header.Header{Kind: header.Short}, 1, 1)
	wantFault(t, []byte{0x40}, 1, api.ErrShort)
	wantFault(t, []byte{0}, 0, api.ErrFixed)
	wantFault(t, nil, 0, api.ErrShort)
	wantFault(t, []byte{}, api.MaxCid, api.ErrShort)
}

// P6.1: a cid out of its bounds is told ahead of all else, in every kind of header.
func TestParseCid(t *testing.T) {
	for _, cid := range []int{math.MinInt, -1000, -2, -1, api.MaxCid + 1, api.MaxCid + 2, 255, 256, 1 << 32, api.MaxNum, math.MaxInt} {
		for _, s := range samples() {
			wantFault(t, unhex(t, s.b), cid, api.ErrCid)
		}
		wantFault(t, nil, cid, api.ErrCid)
		for _, b := range []string{"00", "40", "80", "c0 00000001 15", "80 00000000 00 00", "80 00000001 00 00"} {
			wantFault(t, unhex(t, b), cid, api.ErrCid)
		}
	}
	long := samples()[0]
	for cid := range api.MaxCid + 1 {
		wantHeader(t, unhex(t, long.b), cid, long.h, long.at, long.end)
	}
}

// P6.1: a short header's Dst has cid bytes, and what is left is its Length.
func TestParseShort(t *testing.T) {
	for cid := range api.MaxCid + 1 {
		for left := range 4 {
			b := unhex(t, "40"+twos(cid+left))
			wantHeader(t, b, cid, header.Header{Kind: header.Short, Dst: b[1 : 1+cid], Length: left}, 1+cid, len(b))
		}
		for missing := 1; missing <= cid; missing++ {
			wantFault(t, unhex(t, "40"+twos(cid-missing)), cid, api.ErrShort)
		}
	}
	huge := append([]byte{0x40, 7}, make([]byte, 3*api.MaxData)...)
	wantHeader(t, huge, 1, header.Header{Kind: header.Short, Dst: []byte{7}, Length: 3 * api.MaxData}, 2, 2+3*api.MaxData)
}

// P6.1: the bit 40 must be set in a short header, which is found ahead of what is missing; other bits are not looked at.
func TestParseFixedBitOfShort(t *testing.T) {
	for first := range 0x80 {
		b := []byte{byte(first), 5, 6}
		if first&0x40 == 0 {
			for cid := range api.MaxCid + 1 {
				wantFault(t, b, cid, api.ErrFixed)
				wantFault(t, b[:1], cid, api.ErrFixed)
			}
			continue
		}
		wantHeader(t, b, 1, header.Header{Kind: header.Short, Dst: []byte{5}, Length: 1}, 2, 3)
		wantFault(t, b, 3, api.ErrShort)
	}
}

// P6.1: the bit 40 must be set in a long header of the version 1, which is found behind Src.
func TestParseFixedBitOfLong(t *testing.T) {
	for first := 0x80; first < 0xc0; first++ {
		head := []byte{byte(first), 0, 0, 0, 1, 2, 8, 9, 1, 7}
		for n := 1; n < len(head); n++ {
			wantFault(t, head[:n], 0, api.ErrShort)
		}
		wantFault(t, head, 0, api.ErrFixed)
		for _, behind := range []string{"00", "0001", "000105", "01", "40", "0105", twos(15), twos(16), twos(40)} {
			wantFault(t, append(head, unhex(t, behind)...), 0, api.ErrFixed)
		}
		wantFault(t, []byte{byte(first), 0, 0, 0, 1, 21}, 0, api.ErrCid)
		wantFault(t, []byte{byte(first), 0, 0, 0, 1, 0, 21}, 0, api.ErrCid)
	}
}

// P6.1: the bits 30 are the kind; the lowest four are not looked at.
func TestParseKindBits(t *testing.T) {
	for first := 0xc0; first <= 0xff; first++ {
		b := append([]byte{byte(first), 0, 0, 0, 1, 0, 0, 1}, unhex(t, "01 05 060708090a0b0c0d0e0f1011121314")...)
		switch first & 0x30 {
		case 0x00:
			h := header.Header{Kind: header.Initial, Version: 1, Token: []byte{1}, Length: 5}
			wantHeader(t, b, 0, h, 10, 15)
		case 0x10:
			wantHeader(t, b, 0, header.Header{Kind: header.Early, Version: 1, Length: 1}, 8, 9)
		case 0x20:
			wantHeader(t, b, 0, header.Header{Kind: header.Handshake, Version: 1, Length: 1}, 8, 9)
		case 0x30:
			wantHeader(t, b, 0, header.Header{Kind: header.Retry, Version: 1, Token: []byte{1, 1}}, 9, 25)
		}
	}
}

// P6.1: in the other versions no bit but the highest is looked at.
func TestParseOtherVersions(t *testing.T) {
	for first := 0x80; first <= 0xff; first++ {
		b := append([]byte{byte(first)}, unhex(t, "00000000 01 07 00 0a0b0c0d")...)
		wantHeader(t, b, 0, header.Header{Kind: header.Negotiate, Dst: []byte{7}, Versions: []int{0x0a0b0c0d}}, 12, 12)
		for _, c := range []struct {
			version string
			n       int
		}{{"00000002", 2}, {"00000100", 0x100}, {"00010000", 0x10000}, {"01000000", 0x1000000}, {"00000101", 0x101}, {"80000000", 0x80000000}, {"80000001", 0x80000001}, {"01020304", 0x01020304}, {"ffffffff", 0xffffffff}} {
			head := append([]byte{byte(first)}, unhex(t, c.version+"01 07 02 0809")...)
			h := header.Header{Kind: header.Other, Version: c.n, Dst: []byte{7}, Src: []byte{8, 9}}
			wantHeader(t, head, 0, h, 10, 10)
			wantHeader(t, append(head, 0), 0, h, 10, 11)
			wantHeader(t, append(head, unhex(t, twos(60))...), 0, h, 10, 70)
		}
	}
}

// P6.1: headers cut at every byte.
func TestParseCut(t *testing.T) {
	for _, s := range samples() {
		whole := unhex(t, s.b)
		behindSrc := 7 + len(s.h.Dst) + len(s.h.Src)
		for n := range len(whole) {
			part := whole[:n]
			switch {
			case s.h.Kind == header.Short && n >= s.at:
				h := s.h
				h.Length = n - s.at
				wantHeader(t, part, s.cid, h, s.at, n)
			case s.h.Kind == header.Other && n >= s.at:
				wantHeader(t, part, s.cid, s.h, s.at, n)
			case s.h.Kind == header.Negotiate && n == behindSrc+4:
				h := s.h
				h.Versions = h.Versions[:1]
				wantHeader(t, part, s.cid, h, n, n)
			case s.h.Kind == header.Negotiate && n >= behindSrc:
				wantFault(t, part, s.cid, api.ErrLength)
			case s.h.Kind == header.Retry && n >= behindSrc+16:
				h := s.h
				h.Token = whole[behindSrc : n-16]
				wantHeader(t, part, s.cid, h, n-16, n)
			case s.h.Kind < header.Retry && n >= s.end:
				wantHeader(t, part, s.cid, s.h, s.at, s.end)
			case s.h.Kind < header.Retry && n >= s.at:
				wantFault(t, part, s.cid, api.ErrLength)
			default:
				wantFault(t, part, s.cid, api.ErrShort)
			}
		}
	}
}

// P6.1: Dst and Src of 0 to MaxCid bytes in all long headers, and of more; their length is refused ahead of what is missing.
func TestParseIds(t *testing.T) {
	ids := []string{"00", "01 22", "13 " + twos(19), "14 " + twos(20)}
	for _, version := range []string{"00000000", "00000001", "00000002"} {
		for _, dst := range ids {
			for _, src := range ids {
				d, s := unhex(t, dst)[1:], unhex(t, src)[1:]
				b := unhex(t, "d0"+version+dst+src+"03 aabbcc")
				places := 5 + len(d) + len(s) + 2
				switch version {
				case "00000000":
					wantHeader(t, b, 0, header.Header{Kind: header.Negotiate, Dst: d, Src: s, Versions: []int{0x03aabbcc}}, len(b), len(b))
				case "00000001":
					wantHeader(t, b, 0, header.Header{Kind: header.Early, Version: 1, Dst: d, Src: s, Length: 3}, places+1, len(b))
				default:
					wantHeader(t, b, 0, header.Header{Kind: header.Other, Version: 2, Dst: d, Src: s}, places, len(b))
				}
			}
		}
		for _, wrong := range []string{"15", "16", "40", "7f", "80", "ff"} {
			for _, behind := range []string{"", twos(1), twos(20), twos(21), twos(300)} {
				wantFault(t, unhex(t, "d0"+version+wrong+behind), 0, api.ErrCid)
				wantFault(t, unhex(t, "d0"+version+"00"+wrong+behind), 0, api.ErrCid)
				wantFault(t, unhex(t, "d0"+version+"14"+twos(20)+wrong+behind), 0, api.ErrCid)
			}
			wantFault(t, unhex(t, "d0"+version+"02 22"), 0, api.ErrShort)
			wantFault(t, unhex(t, "d0"+version+"01"+wrong), 0, api.ErrShort)
			wantFault(t, unhex(t, "d0"+version+wrong+wrong), 0, api.ErrCid)
		}
	}
}

// P6.1: Versions to the end of the datagram: at least one, and whole.
func TestParseNegotiate(t *testing.T) {
	for n := range 41 {
		b := append(unhex(t, "80 00000000 01 07 00"), bytes.Repeat([]byte{1}, n)...)
		if n == 0 || n%4 != 0 {
			wantFault(t, b, 0, api.ErrLength)
			continue
		}
		h := header.Header{Kind: header.Negotiate, Dst: []byte{7}, Versions: slices.Repeat([]int{0x01010101}, n/4)}
		wantHeader(t, b, 0, h, 8+n, 8+n)
	}
	h := header.Header{Kind: header.Negotiate, Versions: []int{0, 1, 0x7fffffff, 0x80000000, 0xffffffff, 0x01020304}}
	wantHeader(t, unhex(t, "c0 00000000 00 00 00000000 00000001 7fffffff 80000000 ffffffff 01020304"), 0, h, 31, 31)
}

// P6.1: a Retry has 16 bytes behind its Token, which may be none.
func TestParseRetry(t *testing.T) {
	head := unhex(t, "f0 00000001 00 01 07")
	for n := range 40 {
		b := append(slices.Clone(head), bytes.Repeat([]byte{9}, n)...)
		if n < 16 {
			wantFault(t, b, 0, api.ErrShort)
			continue
		}
		h := header.Header{Kind: header.Retry, Version: 1, Src: []byte{7}, Token: bytes.Repeat([]byte{9}, n-16)}
		wantHeader(t, b, 0, h, 8+n-16, 8+n)
	}
	b := append(head, make([]byte, 2*api.MaxData)...)
	h := header.Header{Kind: header.Retry, Version: 1, Src: []byte{7}, Token: make([]byte, 2*api.MaxData-16)}
	wantHeader(t, b, 0, h, len(b)-16, len(b))
}

// P6.1: Length from 1 to what is left; what is left behind the packet is not looked at.
func TestParseLength(t *testing.T) {
	for _, c := range []struct {
		head string
		h    header.Header
	}{
		{"c0 00000001 00 00 00", header.Header{Kind: header.Initial, Version: 1}},
		{"c0 00000001 00 00 02 0506", header.Header{Kind: header.Initial, Version: 1, Token: []byte{5, 6}}},
		{"d0 00000001 00 00", header.Header{Kind: header.Early, Version: 1}},
		{"e0 00000001 00 00", header.Header{Kind: header.Handshake, Version: 1}},
	} {
		head := unhex(t, c.head)
		wantFault(t, head, 0, api.ErrShort)
		for left := range 6 {
			for _, form := range []string{"", "40", "800000", "c0000000000000"} {
				for length := range left + 3 {
					b := append(slices.Clone(head), unhex(t, form)...)
					b = append(b, byte(length))
					at := len(b)
					b = append(b, bytes.Repeat([]byte{0xee}, left)...)
					if length == 0 || length > left {
						wantFault(t, b, 0, api.ErrLength)
						continue
					}
					h := c.h
					h.Length = length
					wantHeader(t, b, 0, h, at, at+length)
				}
			}
		}
		for _, much := range []string{"3f", "7fff", "bfffffff", "ffffffffffffffff", "80000006"} {
			wantFault(t, append(slices.Clone(head), unhex(t, much+"0102030405")...), 0, api.ErrLength)
			wantFault(t, append(slices.Clone(head), unhex(t, much)...), 0, api.ErrLength)
		}
		for _, part := range []string{"40", "80", "800000", "c0", "c0000000000000", "ff"} {
			wantFault(t, append(slices.Clone(head), unhex(t, part)...), 0, api.ErrShort)
		}
	}
}

// P6.1: the Token of an Initial, its length in every form, whole and cut.
func TestParseToken(t *testing.T) {
	for _, c := range []struct {
		size string
		n    int
	}{{"00", 0}, {"01", 1}, {"3f", 63}, {"4000", 0}, {"4001", 1}, {"4040", 64}, {"80000000", 0}, {"80000001", 1}, {"80004000", 16384}, {"80004001", 16385}, {"c000000000000000", 0}, {"c000000000000003", 3}} {
		b := unhex(t, "c0 00000001 00 01 07"+c.size)
		token := bytes.Repeat([]byte{6}, c.n)
		b = append(b, token...)
		wantFault(t, b, 0, api.ErrShort)
		if c.n > 0 {
			wantFault(t, b[:len(b)-1], 0, api.ErrShort)
		}
		b = append(b, 2, 1, 1)
		h := header.Header{Kind: header.Initial, Version: 1, Src: []byte{7}, Token: token, Length: 2}
		wantHeader(t, b, 0, h, len(b)-2, len(b))
		wantFault(t, b[:len(b)-1], 0, api.ErrLength)
	}
	for _, much := range []string{"05", "3f", "7fff", "bfffffff", "ffffffffffffffff"} {
		wantFault(t, unhex(t, "c0 00000001 00 00"+much+"00010203"), 0, api.ErrShort)
	}
}

// P6.6: what is handed in stays as it is, its spare room too; what is told shares memory neither with it nor with another answer.
func TestMemoryOfParse(t *testing.T) {
	for _, s := range samples() {
		given := roomy(unhex(t, s.b))
		before := slices.Clone(given[:cap(given)])
		h, _, _, _ := header.Parse(given, s.cid)
		again, _, _, _ := header.Parse(given, s.cid)
		if !bytes.Equal(given[:cap(given)], before) {
			t.Errorf("Parse(%s) changed what it was given", s.b)
		}
		spoil(given)
		if !same(h, s.h) {
			t.Errorf("Parse(%s) shares memory with what it was given", s.b)
		}
		spoil(h.Dst)
		if !bytes.Equal(h.Src, s.h.Src) || !bytes.Equal(h.Token, s.h.Token) {
			t.Errorf("Parse(%s): Dst shares memory", s.b)
		}
		spoil(h.Src)
		if !bytes.Equal(h.Token, s.h.Token) {
			t.Errorf("Parse(%s): Src shares memory", s.b)
		}
		spoilHeader(h)
		if !same(again, s.h) {
			t.Errorf("Parse(%s): two answers share memory", s.b)
		}
		spoil(given)
		spoilHeader(again)
		if !bytes.Equal(given[:cap(given)], before) {
			t.Errorf("Parse(%s): an answer shares memory with what was given", s.b)
		}
	}
}

// modelNumber: the number at a place and the place behind it, -1 if it is cut.
func modelNumber(b []byte, at int) (int, int) {
	if at >= len(b) || at+1<<(b[at]>>6) > len(b) {
		return -1, 0
	}
	size := 1 << (b[at] >> 6)
	n := int(b[at] & 0x3f)
	for i := 1; i < size; i++ {
		n = n*256 + int(b[at+i])
	}
	return n, at + size
}

// modelID: an id behind its length.
func modelID(b []byte, at int) ([]byte, int, api.Errno) {
	switch {
	case at >= len(b):
		return nil, 0, api.ErrShort
	case b[at] > 20:
		return nil, 0, api.ErrCid
	case at+1+int(b[at]) > len(b):
		return nil, 0, api.ErrShort
	}
	end := at + 1 + int(b[at])
	return b[at+1 : end], end, api.OK
}

// model: Parse by the words of P6.1, place by place.
func model(b []byte, cid int) (h header.Header, at, end int, e api.Errno) {
	none := header.Header{}
	if cid < 0 || cid > 20 {
		return none, 0, 0, api.ErrCid
	}
	if len(b) == 0 {
		return none, 0, 0, api.ErrShort
	}
	if b[0] < 0x80 {
		if b[0] < 0x40 {
			return none, 0, 0, api.ErrFixed
		}
		if len(b) < 1+cid {
			return none, 0, 0, api.ErrShort
		}
		return header.Header{Kind: 6, Dst: b[1 : 1+cid], Length: len(b) - 1 - cid}, 1 + cid, len(b), api.OK
	}
	if len(b) < 5 {
		return none, 0, 0, api.ErrShort
	}
	h.Version = int(b[1])<<24 + int(b[2])<<16 + int(b[3])<<8 + int(b[4])
	at = 5
	if h.Dst, at, e = modelID(b, at); e != api.OK {
		return none, 0, 0, e
	}
	if h.Src, at, e = modelID(b, at); e != api.OK {
		return none, 0, 0, e
	}
	if h.Version > 1 {
		h.Kind = 7
		return h, at, len(b), api.OK
	}
	if h.Version == 0 {
		h.Kind = 5
		if at == len(b) || (len(b)-at)%4 != 0 {
			return none, 0, 0, api.ErrLength
		}
		for ; at < len(b); at += 4 {
			h.Versions = append(h.Versions, int(b[at])<<24+int(b[at+1])<<16+int(b[at+2])<<8+int(b[at+3]))
		}
		return h, at, at, api.OK
	}
	return modelOurs(b, h, at)
}

// modelOurs: what stands behind Src in a header of the version 1.
func modelOurs(b []byte, h header.Header, at int) (header.Header, int, int, api.Errno) {
	none := header.Header{}
	if b[0] < 0xc0 {
		return none, 0, 0, api.ErrFixed
	}
	h.Kind = 1 + int(b[0]-0xc0)/16
	if h.Kind == 4 {
		if len(b)-at < 16 {
			return none, 0, 0, api.ErrShort
		}
		h.Token = b[at : len(b)-16]
		return h, len(b) - 16, len(b), api.OK
	}
	if h.Kind == 1 {
		size, behind := modelNumber(b, at)
		if size < 0 || size > len(b)-behind {
			return none, 0, 0, api.ErrShort
		}
		h.Token = b[behind : behind+size]
		at = behind + size
	}
	h.Length, at = modelNumber(b, at)
	if h.Length < 0 {
		return none, 0, 0, api.ErrShort
	}
	if h.Length == 0 || h.Length > len(b)-at {
		return none, 0, 0, api.ErrLength
	}
	return h, at, at + h.Length, api.OK
}

// chance: bytes that are near to a datagram, by cutting, changing and joining packets.
func chance(t *testing.T, rng *rand.Rand, all [][]byte) []byte {
	t.Helper()
	var b []byte
	for range 1 + rng.Intn(3) {
		b = append(b, all[rng.Intn(len(all))]...)
	}
	for range rng.Intn(4) {
		i := rng.Intn(min(len(b), 16))
		b[i] = []byte{byte(rng.Intn(256)), 0, 1, 2, 0x40, 0xc0, b[i] + 1, b[i] ^ 1<<rng.Intn(8)}[rng.Intn(8)]
	}
	if rng.Intn(2) == 0 {
		b = b[:rng.Intn(len(b)+1)]
	}
	return b
}

// P1, P6.1, P6.3: Parse and Split against P6.1 read place by place.
func TestParseAgainstModel(t *testing.T) {
	rng := rand.New(rand.NewSource(6))
	var all [][]byte
	for _, s := range samples() {
		all = append(all, unhex(t, s.b)[:s.end])
	}
	seen := map[api.Errno]int{}
	for range 300000 {
		b, cid := chance(t, rng, all), rng.Intn(5)
		h, at, end, e := model(b, cid)
		seen[e]++
		if e != api.OK {
			wantFault(t, b, cid, e)
		} else {
			wantHeader(t, b, cid, h, at, end)
			wantPieces(t, b, cid, modelPieces(b, cid)...)
		}
		if t.Failed() {
			return
		}
	}
	for _, e := range []api.Errno{api.OK, api.ErrShort, api.ErrCid, api.ErrFixed, api.ErrLength} {
		if seen[e] < 1000 {
			t.Errorf("the error %d came %d times only", e, seen[e])
		}
	}
}

// P1: no bytes make Parse or Split panic.
func TestNoPanicAtAnyBytes(t *testing.T) {
	rng := rand.New(rand.NewSource(66))
	for range 100000 {
		b := make([]byte, rng.Intn(60))
		rng.Read(b)
		if len(b) > 5 && rng.Intn(2) == 0 {
			copy(b[1:], []byte{0, 0, 0, 1, byte(rng.Intn(22))})
		}
		cid := []int{math.MinInt, -1, 0, 1, 8, 20, 21, math.MaxInt}[rng.Intn(8)]
		h, at, end, e := header.Parse(b, cid)
		wantH, wantAt, wantEnd, wantE := model(b, cid)
		if !same(h, wantH) || at != wantAt || end != wantEnd || e != wantE {
			t.Fatalf("Parse(%x, %d): %v, %d, %d, %d; want %v, %d, %d, %d", b, cid, h, at, end, e, wantH, wantAt, wantEnd, wantE)
		}
		header.Split(b, cid)
	}
}

package prefix_test

import (
	"bytes"
	"math"
	"math/big"
	"slices"
	"testing"

	"turnpike/api"
	"turnpike/huff"
	"turnpike/prefix"
)

// noNumberPrefixes and noTextPrefixes: numbers of bits that no prefix has.
var (
	noNumberPrefixes = []int{0, 9, 10, 16, 63, 64, 65, 256, 257, math.MaxInt, -1, -2, -8, -64, math.MinInt}
	noTextPrefixes   = append([]int{8}, noNumberPrefixes...)
)

// noNumbers: numbers that no prefix holds.
var noNumbers = []int{-1, -2, -128, -api.MaxNum, -api.MaxNum - 1, math.MinInt, api.MaxNum + 1, api.MaxNum + 2, math.MaxInt}

// allOnes: the number that fills a prefix.
func allOnes(bits int) int {
	return []int{0, 1, 3, 7, 15, 31, 63, 127, 255}[bits]
}

// form: a number behind a prefix by the chapter's words, with so many bytes at least that follow it.
func form(n *big.Int, bits int, first byte, follow int) []byte {
	full := allOnes(bits)
	above := int(first) / (full + 1) * (full + 1)
	if n.Cmp(big.NewInt(int64(full))) < 0 {
		return []byte{byte(above + int(n.Int64()))}
	}
	b := []byte{byte(above + full)}
	rest, base, low := new(big.Int).Sub(n, big.NewInt(int64(full))), big.NewInt(128), new(big.Int)
	for {
		rest.DivMod(rest, base, low)
		follow--
		if rest.Sign() == 0 && follow <= 0 {
			return append(b, byte(low.Int64()))
		}
		b = append(b, byte(low.Int64()+128))
	}
}

// formOf: the same of a number, in as few bytes as can be.
func formOf(n, bits int, first byte) []byte {
	return form(big.NewInt(int64(n)), bits, first, 0)
}

// above: the number that is so much above MaxNum.
func above(more int64) *big.Int {
	return new(big.Int).Add(big.NewInt(api.MaxNum), big.NewInt(more))
}

// read: what P15.2 says of bytes.
func read(b []byte, at, bits int) (n, end int, e api.Errno) {
	switch {
	case bits < 1 || bits > 8:
		return 0, 0, api.ErrPrefix
	case at < 0 || at > len(b):
		return 0, 0, api.ErrPlace
	case at == len(b):
		return 0, 0, api.ErrShort
	}
	full := allOnes(bits)
	sum := big.NewInt(int64(int(b[at]) % (full + 1)))
	if sum.Int64() < int64(full) {
		return int(sum.Int64()), at + 1, api.OK
	}
	worth := big.NewInt(1)
	for count, x := range b[at+1:] {
		sum.Add(sum, new(big.Int).Mul(worth, big.NewInt(int64(x%128))))
		worth.Mul(worth, big.NewInt(128))
		switch {
		case sum.Cmp(big.NewInt(api.MaxNum)) > 0:
			return 0, 0, api.ErrLarge
		case x < 128:
			return int(sum.Int64()), at + 2 + count, api.OK
		case count == 9:
			return 0, 0, api.ErrLarge
		}
	}
	return 0, 0, api.ErrShort
}

// readText: what P15.4 says of bytes.
func readText(b []byte, at, bits int) (s string, end int, e api.Errno) {
	if bits < 1 || bits > 7 {
		return "", 0, api.ErrPrefix
	}
	length, from, e := read(b, at, bits)
	if e != api.OK {
		return "", 0, e
	}
	if length > api.MaxData {
		return "", 0, api.ErrHuge
	}
	if len(b) < from+length {
		return "", 0, api.ErrShort
	}
	text := b[from : from+length]
	if int(b[at])/(allOnes(bits)+1)%2 == 1 {
		if text, e = huff.Decode(text); e != api.OK {
			return "", 0, e
		}
	}
	return string(text), from + length, api.OK
}

// withLength: bytes behind their length, with the bits above the prefix as told.
func withLength(bits int, first byte, text []byte) []byte {
	return append(formOf(len(text), bits, first), text...)
}

// flag: the bit that tells of a coded text.
func flag(bits int) byte {
	return byte(allOnes(bits) + 1)
}

// codedForm: a coded text behind its length, whether it is shorter than the plain one or not.
func codedForm(s string, bits int) []byte {
	return withLength(bits, flag(bits), huff.Encode([]byte(s)))
}

// amid: bytes with others ahead of them and behind.
func amid(ahead, b, behind []byte) []byte {
	return slices.Concat(ahead, b, behind)
}

// wantPut asks Put for bytes, or for an error and nothing beside it.
func wantPut(t *testing.T, n, bits int, first byte, want []byte, wantE api.Errno) {
	t.Helper()
	if b, e := prefix.Put(n, bits, first); !bytes.Equal(b, want) || e != wantE {
		t.Errorf("Put(%d, %d, %x): %x, %d; want %x, %d", n, bits, first, b, e, want, wantE)
	}
}

// wantGet asks Get for one answer.
func wantGet(t *testing.T, b []byte, at, bits, wantN, wantEnd int, wantE api.Errno) {
	t.Helper()
	if n, end, e := prefix.Get(b, at, bits); n != wantN || end != wantEnd || e != wantE {
		t.Errorf("Get(%.40x, %d, %d): %d, %d, %d; want %d, %d, %d", b, at, bits, n, end, e, wantN, wantEnd, wantE)
	}
}

// wantPutText asks PutText for bytes, or for an error and nothing beside it.
func wantPutText(t *testing.T, s string, bits int, first byte, want []byte, wantE api.Errno) {
	t.Helper()
	if b, e := prefix.PutText(s, bits, first); !bytes.Equal(b, want) || e != wantE {
		t.Errorf("PutText of %d bytes %.40q, %d, %x: %.40x, %d; want %.40x, %d", len(s), s, bits, first, b, e, want, wantE)
	}
}

// wantGetText asks GetText for one answer.
func wantGetText(t *testing.T, b []byte, at, bits int, wantS string, wantEnd int, wantE api.Errno) {
	t.Helper()
	if s, end, e := prefix.GetText(b, at, bits); s != wantS || end != wantEnd || e != wantE {
		t.Errorf("GetText of %d bytes %.40x, %d, %d: %.40q, %d, %d; want %.40q, %d, %d", len(b), b, at, bits, s, end, e, wantS, wantEnd, wantE)
	}
}

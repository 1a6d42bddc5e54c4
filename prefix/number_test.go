package prefix_test

import (
	"bytes"
	"encoding/hex"
	"math"
	"math/big"
	"math/rand"
	"testing"

	"turnpike/api"
	"turnpike/prefix"
)

// unhex: bytes that are written as digits.
func unhex(t *testing.T, digits string) []byte {
	t.Helper()
	b, err := hex.DecodeString(digits)
	if err != nil {
		t.Fatal(err)
	}
	return b
}

// edges: the numbers at whose neighbours a form changes, with these neighbours.
func edges(bits int) []int {
	full := allOnes(bits)
	list := []int{0, 1, full - 1, full, full + 1, api.MaxNum - 1, api.MaxNum}
	for follow := 1; follow <= 8; follow++ {
		more := 1 << (7 * follow)
		list = append(list, full+more-1, full+more, full+more+1)
	}
	return list
}

// P15.1, P15.2: the chapter's examples, and forms that were worked out apart from this program.
func TestKnownNumbers(t *testing.T) {
	for _, c := range []struct {
		n, bits int
		first   byte
		digits  string
	}{
		{10, 5, 0, "0a"},
		{1337, 5, 0xe0, "ff9a0a"},
		{1337, 5, 0, "1f9a0a"},
		{42, 8, 0, "2a"},
		{0, 1, 0, "00"},
		{1, 1, 0, "0100"},
		{2, 1, 0, "0101"},
		{128, 1, 0, "017f"},
		{129, 1, 0, "018001"},
		{16384, 1, 0, "01ff7f"},
		{16385, 1, 0, "01808001"},
		{1337, 1, 0xff, "ffb80a"},
		{6, 3, 0, "06"},
		{7, 3, 0, "0700"},
		{134, 3, 0x20, "277f"},
		{135, 3, 0x20, "278001"},
		{1337, 3, 0, "07b20a"},
		{30, 5, 0, "1e"},
		{31, 5, 0, "1f00"},
		{126, 7, 0x80, "fe"},
		{127, 7, 0x80, "ff00"},
		{1337, 7, 0, "7fba09"},
		{254, 8, 0, "fe"},
		{255, 8, 0, "ff00"},
		{382, 8, 0, "ff7f"},
		{383, 8, 0, "ff8001"},
		{1337, 8, 0, "ffba08"},
		{api.MaxNum, 1, 0, "01feffffffffffffff3f"},
		{api.MaxNum - 1, 3, 0, "07f7ffffffffffffff3f"},
		{api.MaxNum, 5, 0, "1fe0ffffffffffffff3f"},
		{api.MaxNum, 7, 0, "7f80ffffffffffffff3f"},
		{api.MaxNum, 8, 0, "ff80feffffffffffff3f"},
	} {
		b := unhex(t, c.digits)
		wantPut(t, c.n, c.bits, c.first, b, api.OK)
		wantGet(t, b, 0, c.bits, c.n, len(b), api.OK)
	}
}

// P15.1, P15.2: each prefix with the numbers at its edges, there and back.
func TestEdgesOfEachPrefix(t *testing.T) {
	for bits := 1; bits <= 8; bits++ {
		for _, n := range edges(bits) {
			for _, first := range []byte{0, 0xff, 0xa5, 0x5a} {
				b := formOf(n, bits, first)
				wantPut(t, n, bits, first, b, api.OK)
				wantGet(t, b, 0, bits, n, len(b), api.OK)
			}
		}
	}
}

// P15.1: a number has one byte below 2^k - 1, and one more wherever seven bits more are needed.
func TestPutTakesAsFewBytesAsCanBe(t *testing.T) {
	for bits := 1; bits <= 8; bits++ {
		full := allOnes(bits)
		for n := range full {
			if b, _ := prefix.Put(n, bits, 0); len(b) != 1 {
				t.Errorf("Put(%d, %d, 0): %x", n, bits, b)
			}
		}
		for follow := 1; follow <= 8; follow++ {
			last := full + 1<<(7*follow) - 1
			if b, _ := prefix.Put(last, bits, 0); len(b) != 1+follow {
				t.Errorf("Put(%d, %d, 0): %x", last, bits, b)
			}
			if b, _ := prefix.Put(last+1, bits, 0); len(b) != 2+follow {
				t.Errorf("Put(%d, %d, 0): %x", last+1, bits, b)
			}
		}
	}
}

// P15.1, P15.2: every first byte: its bits above the prefix are kept, and read over.
func TestBitsAboveThePrefix(t *testing.T) {
	for bits := 1; bits <= 8; bits++ {
		full := allOnes(bits)
		for first := range 256 {
			for _, n := range []int{0, full / 2, full - 1, full, full + 1, full + 128, api.MaxNum} {
				wantPut(t, n, bits, byte(first), formOf(n, bits, byte(first)), api.OK)
				b, e := prefix.Put(n, bits, byte(first))
				if e != api.OK || int(b[0])|full != first|full {
					t.Fatalf("Put(%d, %d, %x): %x", n, bits, first, b)
				}
				wantGet(t, b, 0, bits, n, len(b), api.OK)
			}
		}
	}
}

// P15.2: any first byte alone, with each prefix.
func TestGetOfAnyFirstByte(t *testing.T) {
	for bits := 1; bits <= 8; bits++ {
		full := allOnes(bits)
		for x := range 256 {
			low := x % (full + 1)
			if low < full {
				wantGet(t, []byte{byte(x)}, 0, bits, low, 1, api.OK)
				wantGet(t, []byte{byte(x), 0xff, 0xff}, 0, bits, low, 1, api.OK)
				continue
			}
			wantGet(t, []byte{byte(x)}, 0, bits, 0, 0, api.ErrShort)
			wantGet(t, []byte{byte(x), 3, 0xff}, 0, bits, full+3, 2, api.OK)
		}
	}
}

// P15.1, P15.2: bits that are no prefix, whatever else is wrong.
func TestNoPrefixes(t *testing.T) {
	for _, bits := range noNumberPrefixes {
		for _, n := range append([]int{0, 1, api.MaxNum}, noNumbers...) {
			wantPut(t, n, bits, 0xff, nil, api.ErrPrefix)
		}
		for _, b := range [][]byte{nil, {1}, {0xff}, {0xff, 0xff}, bytes.Repeat([]byte{0xff}, 12)} {
			for _, at := range []int{0, -1, len(b), len(b) + 1, math.MinInt, math.MaxInt} {
				wantGet(t, b, at, bits, 0, 0, api.ErrPrefix)
			}
		}
	}
}

// P15.1: numbers below 0 and above MaxNum.
func TestPutOfNoNumbers(t *testing.T) {
	for bits := 1; bits <= 8; bits++ {
		for _, n := range noNumbers {
			wantPut(t, n, bits, 0, nil, api.ErrNumber)
			wantPut(t, n, bits, 0xff, nil, api.ErrNumber)
		}
	}
}

// P15.2: places out of the bytes, at their end, and amid them.
func TestGetAtPlaces(t *testing.T) {
	for bits := 1; bits <= 8; bits++ {
		for size := range 6 {
			b := bytes.Repeat([]byte{0xff}, size)
			wantGet(t, b, size, bits, 0, 0, api.ErrShort)
			for _, at := range []int{-1, -2, -size - 1, math.MinInt, size + 1, size + 2, math.MaxInt} {
				wantGet(t, b, at, bits, 0, 0, api.ErrPlace)
			}
		}
		for _, n := range edges(bits) {
			b := formOf(n, bits, 0xff)
			for ahead := range 4 {
				for behind := range 4 {
					whole := amid(bytes.Repeat([]byte{0x80}, ahead), b, bytes.Repeat([]byte{0xff}, behind))
					wantGet(t, whole, ahead, bits, n, ahead+len(b), api.OK)
				}
			}
		}
	}
}

// P15.2: forms that end too early, at each of their bytes; the spare room holds the rest, which Get must not see.
func TestGetOfWhatIsCutOff(t *testing.T) {
	for bits := 1; bits <= 8; bits++ {
		for _, n := range edges(bits) {
			for follow := range 11 {
				b := form(big.NewInt(int64(n)), bits, 0x55, follow)
				for cut := range len(b) {
					wantGet(t, b[:cut], 0, bits, 0, 0, api.ErrShort)
					wantGet(t, amid([]byte{7, 7}, b[:cut], nil), 2, bits, 0, 0, api.ErrShort)
				}
			}
		}
	}
}

// P15.2: numbers in more bytes than need be, up to ten that follow; eleven are too many.
func TestGetOfLongForms(t *testing.T) {
	wantGet(t, unhex(t, "1f8000"), 0, 5, 31, 3, api.OK)
	wantGet(t, unhex(t, "1f9a8a00"), 0, 5, 1337, 4, api.OK)
	wantGet(t, unhex(t, "1f9a8a808080808080800000"), 0, 5, 1337, 11, api.OK)
	for bits := 1; bits <= 8; bits++ {
		for _, n := range edges(bits) {
			if n < allOnes(bits) {
				continue
			}
			for follow := 1; follow <= 10; follow++ {
				b := form(big.NewInt(int64(n)), bits, 0, follow)
				wantGet(t, b, 0, bits, n, len(b), api.OK)
			}
			for follow := 11; follow <= 14; follow++ {
				b := form(big.NewInt(int64(n)), bits, 0, follow)
				wantGet(t, b, 0, bits, 0, 0, api.ErrLarge)
			}
		}
	}
}

// P15.2: a tenth byte that says that another one follows is refused, whether another one is there or not.
func TestGetOfATenthThatGoesOn(t *testing.T) {
	for bits := 1; bits <= 8; bits++ {
		full := byte(allOnes(bits))
		b := append([]byte{full}, bytes.Repeat([]byte{0x80}, 10)...)
		for cut := 1; cut <= 10; cut++ {
			wantGet(t, b[:cut], 0, bits, 0, 0, api.ErrShort)
		}
		wantGet(t, b, 0, bits, 0, 0, api.ErrLarge)
		wantGet(t, append(b, 0), 0, bits, 0, 0, api.ErrLarge)
		wantGet(t, append(b, 1, 2, 3), 0, bits, 0, 0, api.ErrLarge)
		b[10] = 0
		wantGet(t, b, 0, bits, int(full), 11, api.OK)
	}
}

// P15.2: a tenth byte that adds anything, with each of its bits, makes the number too large.
func TestGetOfATenthThatAdds(t *testing.T) {
	for bits := 1; bits <= 8; bits++ {
		b := append([]byte{byte(allOnes(bits))}, bytes.Repeat([]byte{0x80}, 10)...)
		for x := 1; x < 256; x++ {
			b[10] = byte(x)
			wantGet(t, b, 0, bits, 0, 0, api.ErrLarge)
			wantGet(t, append(b, 0), 0, bits, 0, 0, api.ErrLarge)
		}
	}
}

// P15.2: numbers just above MaxNum are refused at the byte that makes them so, not ahead of it, and whatever is behind it.
func TestGetOfNumbersJustAboveMaxNum(t *testing.T) {
	for bits := 1; bits <= 8; bits++ {
		for _, more := range []int64{1, 2, 3, 127, 128, 129, 1 << 32, 1 << 61, 1 << 62} {
			for follow := range 11 {
				b := form(above(more), bits, 0, follow)
				wantGet(t, b, 0, bits, 0, 0, api.ErrLarge)
				for cut := range len(b) {
					_, _, want := read(b[:cut], 0, bits)
					wantGet(t, b[:cut], 0, bits, 0, 0, want)
				}
				// It is the ninth that makes it too large: ahead of it the bytes have ended too early.
				wantGet(t, b[:9], 0, bits, 0, 0, api.ErrShort)
				wantGet(t, b[:10], 0, bits, 0, 0, api.ErrLarge)
			}
		}
	}
}

// P15.2: the ninth byte that follows takes the number up to MaxNum, and no further; with the tenth the same holds.
func TestGetAtTheNinth(t *testing.T) {
	for bits := 1; bits <= 8; bits++ {
		full := allOnes(bits)
		for _, low := range []byte{0x80, 0xff} {
			for ninth := range 128 {
				b := append([]byte{byte(full)}, bytes.Repeat([]byte{low}, 8)...)
				b = append(b, byte(ninth))
				n, end, e := read(b, 0, bits)
				wantGet(t, b, 0, bits, n, end, e)
				b[9] |= 0x80
				n, end, e = read(b, 0, bits)
				wantGet(t, b, 0, bits, n, end, e)
				wantGet(t, append(b, 0x80), 0, bits, 0, 0, api.ErrLarge)
			}
		}
	}
	// 2^62 - 1 as the rest is too large by the 2^k - 1 of the prefix; a rest of 2^62 is so by itself.
	wantGet(t, unhex(t, "ffffffffffffffffff3f"), 0, 8, 0, 0, api.ErrLarge)
	wantGet(t, unhex(t, "ff80feffffffffffff3f"), 0, 8, api.MaxNum, 10, api.OK)
	wantGet(t, unhex(t, "ff81feffffffffffff3f"), 0, 8, 0, 0, api.ErrLarge)
	wantGet(t, unhex(t, "ff808080808080808040"), 0, 8, 0, 0, api.ErrLarge)
	wantGet(t, unhex(t, "ffffffffffffffffff7f"), 0, 8, 0, 0, api.ErrLarge)
}

// P15.2: which error is told where two things are wrong.
func TestGetTellsTheFirstError(t *testing.T) {
	for _, c := range []struct {
		digits   string
		at, bits int
		e        api.Errno
	}{
		{"", -1, 0, api.ErrPrefix},
		{"", 1, 9, api.ErrPrefix},
		{"", 0, 0, api.ErrPrefix},
		{"", 1, 8, api.ErrPlace},
		{"", -1, 8, api.ErrPlace},
		{"", 0, 8, api.ErrShort},
		// It is too large at the ninth byte, where another one should follow and none does.
		{"ffffffffffffffffffff", 0, 8, api.ErrLarge},
		{"ff8080808080808080c0", 0, 8, api.ErrLarge},
		// The tenth says that another one follows, and none does.
		{"ff80808080808080808080", 0, 8, api.ErrLarge},
		{"ff80808080808080808081", 0, 8, api.ErrLarge},
		// It would be too large with any byte more, but the bytes end ahead of that.
		{"ffffffffffffffffff", 0, 8, api.ErrShort},
		{"ff8080808080808080bf", 0, 8, api.ErrShort},
	} {
		wantGet(t, unhex(t, c.digits), c.at, c.bits, 0, 0, c.e)
	}
}

// P15.1, P15.2: many numbers of any size, with any prefix and first byte.
func TestManyNumbers(t *testing.T) {
	chance := rand.New(rand.NewSource(15))
	for range 50000 {
		n := int(chance.Int63()>>1) >> chance.Intn(62)
		bits, first := 1+chance.Intn(8), byte(chance.Intn(256))
		b := formOf(n, bits, first)
		wantPut(t, n, bits, first, b, api.OK)
		wantGet(t, b, 0, bits, n, len(b), api.OK)
	}
}

// someBytes: bytes of any kind, those that stand at the edges of forms, or such as make long forms.
func someBytes(chance *rand.Rand, n int) []byte {
	const edge = "\x00\x01\x3f\x40\x7f\x80\x81\xbf\xc0\xff"
	kind := chance.Intn(3)
	b := make([]byte, n)
	for i := range b {
		b[i] = edge[chance.Intn(len(edge))]
		switch {
		case kind == 0:
			b[i] = byte(chance.Intn(256))
		case kind == 1 && chance.Intn(10) > 0:
			b[i] |= 0x80
		}
	}
	return b
}

// P15.2: many bytes of any kind, at any place, with any prefix and with none.
func TestGetOfManyBytes(t *testing.T) {
	chance := rand.New(rand.NewSource(152))
	seen := map[api.Errno]int{}
	for range 200000 {
		b := someBytes(chance, chance.Intn(16))
		if len(b) > 0 && chance.Intn(2) == 0 {
			b[0] = 0xff
		}
		at, bits := 0, 1+chance.Intn(8)
		if chance.Intn(4) == 0 {
			at, bits = chance.Intn(20)-2, chance.Intn(10)
		}
		n, end, e := read(b, at, bits)
		wantGet(t, b, at, bits, n, end, e)
		seen[e]++
	}
	for _, e := range []api.Errno{api.OK, api.ErrPrefix, api.ErrPlace, api.ErrShort, api.ErrLarge} {
		if seen[e] < 1000 {
			t.Errorf("only %d answers are %d", seen[e], e)
		}
	}
}

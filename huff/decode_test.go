package huff_test

import (
	"bytes"
	"math/rand"
	"strings"
	"testing"

	"turnpike/api"
	"turnpike/huff"
)

// P14.2: the chapter's examples and their neighbours.
func TestDecodeOfKnownBytes(t *testing.T) {
	for _, c := range []struct {
		b    []byte
		text string
		e    api.Errno
	}{
		{nil, "", api.OK},
		{[]byte{}, "", api.OK},
		{[]byte{0x1f}, "a", api.OK},
		{[]byte{0x07}, "0", api.OK},
		{[]byte{0xfe, 0x01}, "\x00", api.OK},
		{[]byte{0xff, 0x6b}, "\xff", api.OK},
		{[]byte{0x18, 0xc7}, "aaa", api.OK},
		{[]byte{0xff}, "", api.ErrPad},
		{[]byte{0xfe}, "", api.ErrPad},
		{[]byte{0x1e}, "", api.ErrPad},
		{[]byte{0x1f, 0xff}, "", api.ErrPad},
		{[]byte{0xfe, 0x00}, "", api.ErrPad},
		{[]byte{0xff, 0x6c}, "", api.ErrCode},
		{[]byte{0xff, 0x6d}, "", api.ErrCode},
		{[]byte{0xff, 0xff}, "", api.ErrCode},
		{[]byte{0x1f, 0xff, 0xff}, "", api.ErrCode},
	} {
		wantRead(t, c.b, []byte(c.text), c.e)
	}
}

// wantBack asks whether a coded text is read as its text.
func wantBack(t *testing.T, text []byte) {
	t.Helper()
	wantRead(t, coded(t, text), text, api.OK)
	wantRead(t, huff.Encode(text), text, api.OK)
}

// P14.1, P14.2: each byte, any two, and many texts come back from their coded texts.
func TestDecodeTellsTheText(t *testing.T) {
	wantBack(t, nil)
	for i := range 256 {
		wantBack(t, []byte{byte(i)})
		wantBack(t, bytes.Repeat([]byte{byte(i)}, 8))
		for j := range 256 {
			wantBack(t, []byte{byte(i), byte(j)})
		}
	}
	chance := rand.New(rand.NewSource(41))
	for range 20000 {
		wantBack(t, someText(chance, chance.Intn(60)))
	}
	for place := range 8 {
		wantBack(t, lead(t, place))
	}
}

// P14.2: any bytes of one and of two; those that are read are the coded text of what they tell.
func TestDecodeOfAnyOneAndTwoBytes(t *testing.T) {
	for i := range 256 {
		wantAsWritten(t, []byte{byte(i)})
		for j := range 256 {
			wantAsWritten(t, []byte{byte(i), byte(j)})
		}
	}
}

// wantAsWritten asks whether bytes are read as P14.2 says, and are the coded text of what they tell.
func wantAsWritten(t *testing.T, b []byte) api.Errno {
	t.Helper()
	want, e := read(b)
	wantRead(t, b, want, e)
	if text, e := huff.Decode(b); e == api.OK && !bytes.Equal(huff.Encode(text), b) {
		t.Errorf("Decode(%x) is %q, whose coded text is %x", b, text, huff.Encode(text))
	}
	return e
}

// P14.2: many bytes of any kind, and coded texts with one bit turned or an end cut off.
func TestDecodeOfManyBytes(t *testing.T) {
	chance := rand.New(rand.NewSource(142))
	seen := map[api.Errno]int{}
	for range 20000 {
		b := make([]byte, chance.Intn(12))
		for i := range b {
			b[i] = byte(chance.Intn(256))
		}
		seen[wantAsWritten(t, b)]++
		b = coded(t, someText(chance, 1+chance.Intn(20)))
		seen[wantAsWritten(t, b[:chance.Intn(len(b))])]++
		b[chance.Intn(len(b))] ^= 1 << chance.Intn(8)
		seen[wantAsWritten(t, b)]++
	}
	for _, e := range []api.Errno{api.OK, api.ErrPad, api.ErrCode} {
		if seen[e] < 1000 {
			t.Errorf("only %d answers are %d", seen[e], e)
		}
	}
}

// P14.2: fills of none to seven one-bits end a text; eight to 14 are ErrPad, 15 and more ErrCode.
func TestFillsOfOnes(t *testing.T) {
	for n := range 64 {
		text, b := withLeft(t, strings.Repeat("1", n))
		switch {
		case n <= 7:
			wantRead(t, b, text, api.OK)
		case n < 15:
			wantRead(t, b, nil, api.ErrPad)
		default:
			wantRead(t, b, nil, api.ErrCode)
		}
	}
	for size := 2; size < 20; size++ {
		wantRead(t, bytes.Repeat([]byte{0xff}, size), nil, api.ErrCode)
	}
}

// P14.2: a fill of one to seven bits with a zero bit in it is ErrPad, unless a code stands in it whole.
func TestFillsWithAZero(t *testing.T) {
	for n := 1; n <= 7; n++ {
		for value := range 1<<n - 1 {
			fill := digits(value, n)
			text, b := withLeft(t, fill)
			x, size, ok := first(fill)
			switch {
			case !ok:
				wantRead(t, b, nil, api.ErrPad)
			case strings.Contains(fill[size:], "0"):
				wantRead(t, b, nil, api.ErrPad)
			default:
				wantRead(t, b, joined(text, []byte{x}), api.OK)
			}
		}
	}
	for _, fill := range []string{"0", "00", "01", "10", "000", "110", "0000", "0111", "1110", "01010", "11110", "101110", "111110", "1111100", "1111110"} {
		_, b := withLeft(t, fill)
		wantRead(t, b, nil, api.ErrPad)
	}
}

// P14.2: where no code stands whole, eight to 14 bits that are left are ErrPad, whatever they are.
func TestBeginningsOfLongCodes(t *testing.T) {
	for n := 8; n < 15; n++ {
		for value := 254 << (n - 8); value < 1<<n; value++ {
			_, b := withLeft(t, digits(value, n))
			wantRead(t, b, nil, api.ErrPad)
		}
	}
}

// P14.2: 15 bits that are left, and 16: the longest codes are bytes, the numbers above them ErrCode.
func TestNumbersAboveTheCodes(t *testing.T) {
	for number := 32512; number < 1<<15; number++ {
		bits := digits(number, 15)
		text, b := withLeft(t, bits)
		_, more := withLeft(t, bits+"1")
		_, broken := withLeft(t, bits+"0")
		if number <= 32693 {
			want := joined(text, []byte{byCode[bits]})
			wantRead(t, b, want, api.OK)
			wantRead(t, more, joined(lead(t, 0), want[len(text):]), api.OK)
			wantRead(t, broken, nil, api.ErrPad)
			continue
		}
		wantRead(t, b, nil, api.ErrCode)
		wantRead(t, more, nil, api.ErrCode)
		wantRead(t, broken, nil, api.ErrCode)
		for _, behind := range []string{codeOf('a'), codeOf(0), "1111111", strings.Repeat("0", 100)} {
			_, b := withLeft(t, bits+behind)
			wantRead(t, b, nil, api.ErrCode)
		}
	}
}

// P14.2: 14, 15 and 16 bits where no code stands whole.
func TestPadAndCodeApart(t *testing.T) {
	for _, c := range []struct {
		bits string
		e    api.Errno
	}{
		{"11111110000000", api.ErrPad},
		{"11111111011010", api.ErrPad},
		{"11111111011011", api.ErrPad},
		{"11111111111111", api.ErrPad},
		{"111111110110110", api.ErrCode},
		{"111111111111111", api.ErrCode},
		{"1111111101101100", api.ErrCode},
		{"1111111111111111", api.ErrCode},
	} {
		_, b := withLeft(t, c.bits)
		wantRead(t, b, nil, c.e)
	}
}

// P14.2: MaxData bytes are read, of each answer; one more is ErrHuge, whatever they are.
func TestDecodeAtItsLimit(t *testing.T) {
	full := bytes.Repeat([]byte("0"), 8*api.MaxData/5)
	b := coded(t, full)
	if len(b) != api.MaxData {
		t.Fatalf("the coded text has %d bytes", len(b))
	}
	wantRead(t, b, full, api.OK)
	wantRead(t, bytes.Repeat([]byte{0xf8}, api.MaxData), bytes.Repeat([]byte("&"), api.MaxData), api.OK)
	wantRead(t, bytes.Repeat([]byte{0}, api.MaxData), nil, api.ErrPad)
	wantRead(t, bytes.Repeat([]byte{0xff}, api.MaxData), nil, api.ErrCode)
	wantRead(t, append(bytes.Repeat([]byte{0xf8}, api.MaxData-1), 0xff), nil, api.ErrPad)
	// 8738 codes of 15 bits leave two bits of MaxData bytes for the fill, and one more is too many.
	long := bytes.Repeat([]byte{0}, 8738)
	if n := len(coded(t, long)); n != api.MaxData {
		t.Fatalf("the coded text has %d bytes", n)
	}
	wantBack(t, long)
	wantRead(t, coded(t, append(long, 0)), nil, api.ErrHuge)
	for _, size := range []int{api.MaxData + 1, api.MaxData + 2, 2 * api.MaxData, 1 << 20} {
		for _, x := range []byte{0xf8, 0, 0xff, 0xfe} {
			wantRead(t, bytes.Repeat([]byte{x}, size), nil, api.ErrHuge)
		}
	}
}

package huff_test

import (
	"bytes"
	"encoding/hex"
	"math/rand"
	"testing"

	"turnpike/huff"
)

// P14.1: the chapter's examples, and coded texts that were worked out apart from this program.
func TestEncodeOfKnownTexts(t *testing.T) {
	for _, c := range []struct{ text, digits string }{
		{"", ""},
		{"a", "1f"},
		{"0", "07"},
		{"\x00", "fe01"},
		{"aa", "18ff"},
		{"aaa", "18c7"},
		{"t", "4f"},
		{" ", "53"},
		{"u", "b7"},
		{":", "b9"},
		{"z", "f7"},
		{"&", "f8"},
		{"Z", "fd"},
		{"!", "fe41"},
		{"\xff", "ff6b"},
		{"www.example.com", "f1e3c2e5f23a6ba0ab90f4ff"},
		{"/index.html?q=1&r=2", "60d5485f2bce9a68fe55da00fc5900bf"},
		{"content-length", "21ea496a4ad416a9933f"},
		{"Mon, 21 Oct 2013 20:13:21 GMT", "d07abe941054d444a8200595040b8166e082a62d1bff"},
		{"gzip, deflate, br", "9bd9abfa5242cb40d25fa523b3"},
		{"gr\xc3\xbcn", "9acfef3fdcaa"},
		{"xyz{|}~\x7f\x80\x81\x82\x83\x84\x85\x86\x87", "f3ebdff31fe65fccff9a7f35fe6dfcdff9c7f39fe75fceff9e7f3d"},
	} {
		want, err := hex.DecodeString(c.digits)
		if err != nil {
			t.Fatal(err)
		}
		wantCoded(t, []byte(c.text), want)
	}
}

// P14.1: no byte, as nil and as an empty list.
func TestEncodeOfNothing(t *testing.T) {
	wantCoded(t, nil, nil)
	wantCoded(t, []byte{}, nil)
}

// P14.1: eight times a byte fill their bytes, so they tell the code of each byte whole, its number and its length.
func TestCodeOfEachByte(t *testing.T) {
	for i := range 256 {
		x := byte(i)
		wantCoded(t, []byte{x}, coded(t, []byte{x}))
		eight := bytes.Repeat([]byte{x}, 8)
		if n := huff.Size(eight); n != known[x].bits {
			t.Errorf("the byte %d has %d bits, want %d", x, n, known[x].bits)
			continue
		}
		number := 0
		for _, d := range unpacked(huff.Encode(eight))[:known[x].bits] {
			number = number<<1 | int(d-'0')
		}
		if number != known[x].number {
			t.Errorf("the byte %d has the number %d, want %d", x, number, known[x].number)
		}
		wantCoded(t, eight, coded(t, eight))
	}
}

// P14.1: the bounds of the classes, and that each class's numbers are there once, rising with the bytes.
func TestClasses(t *testing.T) {
	for _, c := range []struct{ bits, from, to int }{
		{5, 0, 9}, {6, 20, 45}, {7, 92, 123}, {8, 248, 253}, {15, 32512, 32693},
	} {
		next := c.from
		for i := range 256 {
			eight := bytes.Repeat([]byte{byte(i)}, 8)
			if huff.Size(eight) != c.bits {
				continue
			}
			if b, want := unpacked(huff.Encode(eight))[:c.bits], digits(next, c.bits); b != want {
				t.Errorf("the byte %d has the code %s, want %s", i, b, want)
			}
			next++
		}
		if next != c.to+1 {
			t.Errorf("the codes of %d bits end at %d, want %d", c.bits, next-1, c.to)
		}
	}
}

// P14.1: any two bytes, each of them behind and ahead of each.
func TestEncodeOfEachPair(t *testing.T) {
	for i := range 256 {
		for j := range 256 {
			pair := []byte{byte(i), byte(j)}
			wantCoded(t, pair, coded(t, pair))
		}
	}
}

// P14.1: texts that end at each of the eight places of a byte, behind codes of each class.
func TestEncodeEndsAtEachPlace(t *testing.T) {
	for place := range 8 {
		ahead := lead(t, place)
		if got := len(bitsOf(ahead)) % 8; got != place {
			t.Fatalf("the text ends at %d, want %d", got, place)
		}
		wantCoded(t, ahead, coded(t, ahead))
		for _, last := range []byte{'0', 't', ' ', 'u', ':', 'z', '&', 'Z', 0, 255} {
			text := joined(ahead, []byte{last})
			wantCoded(t, text, coded(t, text))
		}
	}
}

// P14.1: long texts, of one byte of each class and of all bytes, beyond what Decode takes.
func TestEncodeOfLongTexts(t *testing.T) {
	for _, x := range []byte{'0', 'u', 'z', 'Z', 255} {
		for _, n := range []int{7, 8, 9, 1000, 16383, 16384, 16385, 70001} {
			text := bytes.Repeat([]byte{x}, n)
			wantCoded(t, text, coded(t, text))
			if size := huff.Size(text); size != (n*known[x].bits+7)/8 {
				t.Errorf("Size of %d times %d: %d", n, x, size)
			}
		}
	}
	all := make([]byte, 200000)
	for i := range all {
		all[i] = byte(i * 7)
	}
	wantCoded(t, all, coded(t, all))
}

// P14.1: Size is the length of what Encode tells, and that is the coded text, of many texts.
func TestEncodeOfManyTexts(t *testing.T) {
	chance := rand.New(rand.NewSource(14))
	for range 20000 {
		text := someText(chance, chance.Intn(40))
		wantCoded(t, text, coded(t, text))
		if n, b := huff.Size(text), huff.Encode(text); n != len(b) {
			t.Errorf("Size(%q): %d, but Encode tells %d bytes", text, n, len(b))
		}
	}
}

// someText: bytes of any kind, or those with short codes alone.
func someText(chance *rand.Rand, n int) []byte {
	const short = "012aceiost %-./3456789=A_bdfghlmnpru:BCDEFGHIJKLMNOPQRSTUVWYjkqvwxyz&*,;XZ"
	plain := chance.Intn(2) == 0
	text := make([]byte, n)
	for i := range text {
		text[i] = byte(chance.Intn(256))
		if plain {
			text[i] = short[chance.Intn(len(short))]
		}
	}
	return text
}

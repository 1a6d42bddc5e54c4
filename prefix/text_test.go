package prefix_test

import (
	"bytes"
	"math"
	"math/rand"
	"strings"
	"testing"

	"turnpike/api"
	"turnpike/huff"
	"turnpike/prefix"
)

// P15.3, P15.4: the chapter's examples, and forms that were worked out apart from this program.
func TestKnownTexts(t *testing.T) {
	for _, c := range []struct {
		s      string
		bits   int
		first  byte
		digits string
	}{
		{"", 7, 0, "00"},
		{"", 7, 0xff, "00"},
		{"", 3, 0xff, "f0"},
		{"a", 7, 0, "0161"},
		{"aa", 7, 0, "026161"},
		{"aaa", 7, 0, "8218c7"},
		{"www.example.com", 7, 0, "8cf1e3c2e5f23a6ba0ab90f4ff"},
		{"www.example.com", 3, 0x20, "2f05f1e3c2e5f23a6ba0ab90f4ff"},
		{"www.example.com", 3, 0xff, "ff05f1e3c2e5f23a6ba0ab90f4ff"},
		{"&&&&", 4, 0xff, "e426262626"},
		{"content-length", 5, 0x40, "6a21ea496a4ad416a9933f"},
		{"\x00\xff", 1, 0xfc, "fd0100ff"},
		{"custom-key", 3, 0x27, "2f0125a849e95ba97d7f"},
		{"text/html; charset=utf-8", 2, 0xa0, "a70f497ca589d34d1f6a1271d882a60b532acf7f"},
		{"ZZZZZZZZZ", 6, 0x80, "895a5a5a5a5a5a5a5a5a"},
	} {
		b := unhex(t, c.digits)
		wantPutText(t, c.s, c.bits, c.first, b, api.OK)
		wantGetText(t, b, 0, c.bits, c.s, len(b), api.OK)
	}
	zeros := append(unhex(t, "7fb204"), make([]byte, 625)...)
	wantPutText(t, strings.Repeat("0", 1000), 6, 0, zeros, api.OK)
	wantGetText(t, zeros, 0, 6, strings.Repeat("0", 1000), len(zeros), api.OK)
}

// shorter, asLong and longer: texts whose coded texts are so, held against the plain ones.
var (
	shorter = []string{"aaa", "000", "aaaa", "aabb", "www.example.com", "content-length", ":::::::::", strings.Repeat("a", 300), strings.Repeat("z", 4000)}
	asLong  = []string{"a", "aa", "b", "bb", ":", "::", ":::::::", "&", "&&&&&&&&&", strings.Repeat("Z", 300), "aaa\x00a", "\x80tttt"}
	longer  = []string{"\x00", "\xff", "\x00\x00", "&&\x00", "\xff\xff\xff", strings.Repeat("\x7f", 300), "a\x00", "gr\xc3\xbcn"}
)

// P15.3: a text is coded if that is shorter, and not if it is as long or longer, with each prefix and any bits above it.
func TestPutTextCodesWhatGetsShorter(t *testing.T) {
	for bits := 1; bits <= 7; bits++ {
		for first := range 256 {
			rest := byte(first) &^ byte(allOnes(bits)|int(flag(bits)))
			for _, s := range shorter {
				if huff.Size([]byte(s)) >= len(s) {
					t.Fatalf("%q is not shorter", s)
				}
				wantPutText(t, s, bits, byte(first), withLength(bits, rest+flag(bits), huff.Encode([]byte(s))), api.OK)
			}
			for _, s := range asLong {
				if huff.Size([]byte(s)) != len(s) {
					t.Fatalf("%q is not as long", s)
				}
				wantPutText(t, s, bits, byte(first), withLength(bits, rest, []byte(s)), api.OK)
			}
			for _, s := range longer {
				if huff.Size([]byte(s)) <= len(s) {
					t.Fatalf("%q is not longer", s)
				}
				wantPutText(t, s, bits, byte(first), withLength(bits, rest, []byte(s)), api.OK)
			}
			wantPutText(t, "", bits, byte(first), []byte{rest}, api.OK)
		}
	}
}

// P15.4: each text is read in plain and in coded form, also where that is longer or as long, amid other bytes.
func TestGetTextReadsBothForms(t *testing.T) {
	all := append([]string{""}, shorter...)
	all = append(append(all, asLong...), longer...)
	for bits := 1; bits <= 7; bits++ {
		for _, s := range all {
			for _, b := range [][]byte{withLength(bits, 0, []byte(s)), codedForm(s, bits)} {
				wantGetText(t, b, 0, bits, s, len(b), api.OK)
				for ahead := range 3 {
					whole := amid(bytes.Repeat([]byte{0xff}, ahead), b, []byte("\xff\x00a"))
					wantGetText(t, whole, ahead, bits, s, ahead+len(b), api.OK)
				}
			}
		}
	}
}

// P15.4: the bits above the one that tells of a coded text are read over.
func TestGetTextReadsOverTheBitsAbove(t *testing.T) {
	for bits := 1; bits <= 7; bits++ {
		for first := range 256 {
			plain := withLength(bits, byte(first)&^flag(bits), []byte("aaa"))
			wantGetText(t, plain, 0, bits, "aaa", len(plain), api.OK)
			coded := withLength(bits, byte(first)|flag(bits), huff.Encode([]byte("aaa")))
			wantGetText(t, coded, 0, bits, "aaa", len(coded), api.OK)
		}
	}
}

// P15.3, P15.4: bits that are no prefix, whatever else is wrong.
func TestNoTextPrefixes(t *testing.T) {
	huge := strings.Repeat("a", api.MaxData+1)
	for _, bits := range noTextPrefixes {
		for _, s := range []string{"", "a", "aaa", huge} {
			wantPutText(t, s, bits, 0xff, nil, api.ErrPrefix)
		}
		for _, b := range [][]byte{nil, {0}, {1, 'a'}, {2, 'a'}, {0xff}, bytes.Repeat([]byte{0xff}, 12)} {
			for _, at := range []int{0, -1, len(b), len(b) + 1, math.MinInt, math.MaxInt} {
				wantGetText(t, b, at, bits, "", 0, api.ErrPrefix)
			}
		}
	}
}

// P15.3, P15.4: texts of MaxData bytes, and one more, of each kind.
func TestTextsAtTheLimit(t *testing.T) {
	for bits := 1; bits <= 7; bits++ {
		for _, x := range []string{"a", "z", "&", "\x00", "\xff"} {
			full := strings.Repeat(x, api.MaxData)
			want := withLength(bits, 0, []byte(full))
			if x == "a" || x == "z" {
				want = codedForm(full, bits)
			}
			wantPutText(t, full, bits, 0, want, api.OK)
			wantGetText(t, want, 0, bits, full, len(want), api.OK)
			wantPutText(t, full+x, bits, 0, nil, api.ErrHuge)
			wantPutText(t, full+full, bits, 0xff, nil, api.ErrHuge)
			plain := withLength(bits, 0, []byte(full))
			wantGetText(t, plain, 0, bits, full, len(plain), api.OK)
			wantGetText(t, withLength(bits, 0, []byte(full+x)), 0, bits, "", 0, api.ErrHuge)
		}
	}
}

// P15.4: a coded text has MaxData bytes as it stands, though its plain one has more.
func TestGetTextBoundsTheCodedBytes(t *testing.T) {
	long := strings.Repeat("0", api.MaxData*8/5)
	for bits := 1; bits <= 7; bits++ {
		b := withLength(bits, flag(bits), make([]byte, 10240))
		wantGetText(t, b, 0, bits, strings.Repeat("0", api.MaxData), len(b), api.OK)
		b = codedForm(long, bits)
		if len(b)-len(formOf(api.MaxData, bits, 0)) != api.MaxData {
			t.Fatalf("the coded text has not MaxData bytes but stands in %d", len(b))
		}
		wantGetText(t, b, 0, bits, long, len(b), api.OK)
		wantGetText(t, withLength(bits, flag(bits), make([]byte, api.MaxData+1)), 0, bits, "", 0, api.ErrHuge)
	}
}

// P15.4: Get's errors, at each place where a length can go wrong.
func TestGetTextTellsErrorsOfTheLength(t *testing.T) {
	for bits := 1; bits <= 7; bits++ {
		for size := range 4 {
			b := bytes.Repeat([]byte{0xff}, size)
			wantGetText(t, b, size, bits, "", 0, api.ErrShort)
			for _, at := range []int{-1, math.MinInt, size + 1, math.MaxInt} {
				wantGetText(t, b, at, bits, "", 0, api.ErrPlace)
			}
		}
		for _, first := range []byte{0, flag(bits), 0xff} {
			top := first | byte(allOnes(bits))
			wantGetText(t, []byte{top}, 0, bits, "", 0, api.ErrShort)
			wantGetText(t, []byte{top, 0x80}, 0, bits, "", 0, api.ErrShort)
			large := append([]byte{top}, bytes.Repeat([]byte{0x80}, 10)...)
			wantGetText(t, large[:10], 0, bits, "", 0, api.ErrShort)
			wantGetText(t, large, 0, bits, "", 0, api.ErrLarge)
			large[9] = 0xc0
			wantGetText(t, large[:10], 0, bits, "", 0, api.ErrLarge)
		}
	}
}

// P15.4: lengths above MaxData are huge, whether the bytes are there or not; they may stand in more bytes than need be.
func TestGetTextOfLengths(t *testing.T) {
	room := make([]byte, 3*api.MaxData)
	for bits := 1; bits <= 7; bits++ {
		for _, first := range []byte{0, flag(bits)} {
			for _, n := range []int{api.MaxData + 1, api.MaxData + 2, 2 * api.MaxData, 1 << 32, api.MaxNum - 1, api.MaxNum} {
				b := formOf(n, bits, first)
				wantGetText(t, b, 0, bits, "", 0, api.ErrHuge)
				wantGetText(t, amid(nil, b, room), 0, bits, "", 0, api.ErrHuge)
			}
			wantGetText(t, formOf(api.MaxData, bits, first), 0, bits, "", 0, api.ErrShort)
		}
		full := byte(allOnes(bits))
		text := bytes.Repeat([]byte("&"), int(full)+1)
		b := amid([]byte{full, 0x81, 0x80, 0x80, 0}, text, []byte{1})
		wantGetText(t, b, 0, bits, string(text), len(b)-1, api.OK)
	}
}

// P15.4: fewer bytes behind the length than it tells; the spare room holds the rest, which GetText must not see.
func TestGetTextOfWhatIsCutOff(t *testing.T) {
	for bits := 1; bits <= 7; bits++ {
		for _, s := range []string{"a", "aaa", "&&&&&&&&", "\x00\xff", strings.Repeat("a", 300)} {
			for _, b := range [][]byte{withLength(bits, 0, []byte(s)), codedForm(s, bits)} {
				for cut := range len(b) {
					wantGetText(t, b[:cut], 0, bits, "", 0, api.ErrShort)
					wantGetText(t, amid([]byte{0}, b[:cut], nil), 1, bits, "", 0, api.ErrShort)
				}
			}
		}
	}
}

// P15.4: layer 14's errors of a coded text; the same bytes in plain form are a text.
func TestGetTextTellsErrorsOfTheCode(t *testing.T) {
	for bits := 1; bits <= 7; bits++ {
		for _, c := range []struct {
			digits string
			e      api.Errno
		}{
			{"ff", api.ErrPad},
			{"1e", api.ErrPad},
			{"fe", api.ErrPad},
			{"1fff", api.ErrPad},
			{"fe00", api.ErrPad},
			{"ff6c", api.ErrCode},
			{"ffff", api.ErrCode},
			{"1fffff", api.ErrCode},
			{strings.Repeat("ff", 200), api.ErrCode},
		} {
			text := unhex(t, c.digits)
			b := withLength(bits, flag(bits), text)
			wantGetText(t, b, 0, bits, "", 0, c.e)
			// What stands behind the coded text is no part of it, neither to its good nor to its harm.
			wantGetText(t, amid([]byte{9}, b, []byte{0, 0, 0}), 1, bits, "", 0, c.e)
			plain := withLength(bits, 0, text)
			wantGetText(t, plain, 0, bits, string(text), len(plain), api.OK)
		}
	}
}

// P15.3, P15.4: which error is told where two things are wrong.
func TestTextsTellTheFirstError(t *testing.T) {
	wantPutText(t, strings.Repeat("a", api.MaxData+1), 0, 0, nil, api.ErrPrefix)
	wantPutText(t, strings.Repeat("a", api.MaxData+1), 8, 0, nil, api.ErrPrefix)
	for _, c := range []struct {
		digits   string
		at, bits int
		e        api.Errno
	}{
		{"", 1, 8, api.ErrPrefix},
		{"", 0, 0, api.ErrPrefix},
		{"", 1, 7, api.ErrPlace},
		{"", 0, 7, api.ErrShort},
		// The length ends too early, ahead of telling that it is huge.
		{"7fffff", 0, 7, api.ErrShort},
		// The length is too large, and as a length it is huge.
		{"7fffffffffffffffff7f", 0, 7, api.ErrLarge},
		// The length is huge, and the bytes are not there.
		{"7fffff7f", 0, 7, api.ErrHuge},
		{"ffffff7fffff", 0, 7, api.ErrHuge},
		// Fewer bytes are left than the length tells, and they are no coded text.
		{"83ffff", 0, 7, api.ErrShort},
		{"82ff", 0, 7, api.ErrShort},
	} {
		wantGetText(t, unhex(t, c.digits), c.at, c.bits, "", 0, c.e)
	}
}

// P15.3, P15.4: many texts, there and back.
func TestManyTexts(t *testing.T) {
	chance := rand.New(rand.NewSource(153))
	for range 20000 {
		s := string(someText(chance, chance.Intn(200)))
		bits, first := 1+chance.Intn(7), byte(chance.Intn(256))
		b, e := prefix.PutText(s, bits, first)
		rest := first &^ flag(bits)
		want := withLength(bits, rest, []byte(s))
		if coded := huff.Encode([]byte(s)); len(coded) < len(s) {
			want = withLength(bits, rest|flag(bits), coded)
		}
		if e != api.OK || !bytes.Equal(b, want) {
			t.Fatalf("PutText(%q, %d, %x): %x, %d; want %x", s, bits, first, b, e, want)
		}
		wantGetText(t, b, 0, bits, s, len(b), api.OK)
	}
}

// someText: bytes of any kind, those with short codes alone, or both among one another.
func someText(chance *rand.Rand, n int) []byte {
	const short = "012aceiost %-./3456789=A_bdfghlmnpru:BCDEFGHIJKLMNOPQRSTUVWYjkqvwxyz&*,;XZ"
	odds := []int{1, 2, 8, 1000}[chance.Intn(4)]
	text := make([]byte, n)
	for i := range text {
		text[i] = short[chance.Intn(len(short))]
		if chance.Intn(odds) == 0 {
			text[i] = byte(chance.Intn(256))
		}
	}
	return text
}

// P15.4: many bytes of any kind, and texts with one bit turned or an end cut off, at any place and with any prefix.
func TestGetTextOfManyBytes(t *testing.T) {
	chance := rand.New(rand.NewSource(154))
	seen := map[api.Errno]int{}
	ask := func(b []byte, at, bits int) {
		s, end, e := readText(b, at, bits)
		wantGetText(t, b, at, bits, s, end, e)
		seen[e]++
	}
	for range 40000 {
		b := someBytes(chance, chance.Intn(16))
		ask(b, 0, 1+chance.Intn(7))
		ask(b, chance.Intn(20)-2, chance.Intn(10)-1)
		bits := 1 + chance.Intn(7)
		b, _ = prefix.PutText(string(someText(chance, 1+chance.Intn(30))), bits, byte(chance.Intn(256)))
		ask(b[:chance.Intn(len(b))], 0, bits)
		b[chance.Intn(len(b))] ^= 1 << chance.Intn(8)
		ask(b, 0, bits)
	}
	for _, e := range []api.Errno{api.OK, api.ErrPrefix, api.ErrPlace, api.ErrShort, api.ErrLarge, api.ErrHuge, api.ErrPad, api.ErrCode} {
		if seen[e] < 100 {
			t.Errorf("only %d answers are %d", seen[e], e)
		}
	}
}

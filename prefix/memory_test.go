package prefix_test

import (
	"bytes"
	"slices"
	"strings"
	"testing"

	"turnpike/api"
	"turnpike/prefix"
)

// roomy: the same bytes with spare room behind them, that is filled.
func roomy(b []byte) []byte {
	whole := append(slices.Clone(b), bytes.Repeat([]byte{0x99}, 40)...)
	return whole[:len(b)]
}

// spoil writes over a list and its spare room.
func spoil(b []byte) {
	b = b[:cap(b)]
	for i := range b {
		b[i] ^= 0xff
	}
}

// wantNew asks whether a call tells new memory each time, spare room too.
func wantNew(t *testing.T, name string, call func() []byte) {
	t.Helper()
	first := call()
	want := slices.Clone(first)
	second := call()
	spoil(first)
	if !bytes.Equal(second, want) {
		t.Errorf("%s: an answer changed with the one ahead of it", name)
	}
	if third := call(); !bytes.Equal(third, want) {
		t.Errorf("%s: %.40x once more, want %.40x", name, third, want)
	}
}

// P15.5: Put and PutText tell new memory.
func TestPutTellsNewMemory(t *testing.T) {
	for bits := 1; bits <= 8; bits++ {
		for _, n := range edges(bits) {
			wantNew(t, "Put", func() []byte {
				b, _ := prefix.Put(n, bits, 0xa5)
				return b
			})
		}
	}
	for bits := 1; bits <= 7; bits++ {
		for _, s := range []string{"", "a", "aaa", "&&&&", "\x00\xff", strings.Repeat("a", 300), strings.Repeat("&", 300)} {
			was := strings.Clone(s)
			wantNew(t, "PutText", func() []byte {
				b, _ := prefix.PutText(s, bits, 0xa5)
				return b
			})
			if s != was {
				t.Errorf("PutText changed %.40q to %.40q", was, s)
			}
		}
	}
}

// P15.5: Get and GetText leave the bytes and their spare room as they were, and a text that was told stays.
func TestGetLeavesWhatItIsHanded(t *testing.T) {
	for bits := 1; bits <= 7; bits++ {
		for _, text := range []string{"", "a", "aaa", "&&&&", "\x00\xff", strings.Repeat("a", 300)} {
			for _, form := range [][]byte{withLength(bits, 0, []byte(text)), codedForm(text, bits)} {
				b := roomy(form)
				was := slices.Clone(b[:cap(b)])
				prefix.Get(b, 0, bits)
				s, _, e := prefix.GetText(b, 0, bits)
				if e != api.OK || s != text {
					t.Errorf("GetText(%.40x): %.40q, %d", b, s, e)
				}
				if !bytes.Equal(b[:cap(b)], was) {
					t.Errorf("the bytes were changed")
				}
				spoil(b)
				if s != text {
					t.Errorf("a text changed with the bytes that it was read from")
				}
			}
		}
	}
}

// P15.5: what is refused is not changed either.
func TestMemoryOfWhatIsRefused(t *testing.T) {
	for _, digits := range []string{"", "ff", "82ff", "81ff", "82ffff", "7fffff7f", "ffffffffffffffffffffff", "ff80808080808080808080"} {
		for bits := range 10 {
			for at := -1; at <= 2; at++ {
				b := roomy(unhex(t, digits))
				was := slices.Clone(b[:cap(b)])
				prefix.Get(b, at, bits)
				prefix.GetText(b, at, bits)
				if !bytes.Equal(b[:cap(b)], was) {
					t.Errorf("%s was changed", digits)
				}
			}
		}
	}
}

package huff_test

import (
	"bytes"
	"slices"
	"testing"

	"turnpike/api"
	"turnpike/huff"
)

// roomy: the same bytes with spare room behind them, that is filled.
func roomy(b []byte) []byte {
	whole := append(slices.Clone(b), bytes.Repeat([]byte{0x99}, 40)...)
	return whole[:len(b)]
}

// spoil writes over a list and its spare room.
func spoil(b []byte) {
	b = b[:cap(b)]
	for i := range b {
		b[i] ^= 0xff
	}
}

// wantApart asks whether a call leaves what it is handed as it is, and tells new memory each time.
func wantApart(t *testing.T, name string, handed []byte, call func(b []byte) []byte) {
	t.Helper()
	b := roomy(handed)
	was := slices.Clone(b[:cap(b)])
	first := call(b)
	want := slices.Clone(first)
	second := call(b)
	spoil(first)
	if !bytes.Equal(second, want) {
		t.Errorf("%s: an answer changed with the one ahead of it", name)
	}
	third := call(b)
	if !bytes.Equal(third, want) {
		t.Errorf("%s: %x once more, want %x", name, third, want)
	}
	if !bytes.Equal(b[:cap(b)], was) {
		t.Errorf("%s changed what it was handed", name)
	}
	spoil(b)
	if !bytes.Equal(third, want) {
		t.Errorf("%s: an answer changed with its argument", name)
	}
}

// P14.3
func TestMemory(t *testing.T) {
	for _, text := range []string{"", "0", "00000000", "&", "&&", "a&\x00z u", "\xff\xff\xff\xff\xff\xff\xff\xff"} {
		data := []byte(text)
		wantApart(t, "Encode", data, huff.Encode)
		wantApart(t, "Size", data, func(b []byte) []byte {
			n := huff.Size(b)
			return []byte{byte(n)}
		})
		wantApart(t, "Decode", coded(t, data), func(b []byte) []byte {
			text, e := huff.Decode(b)
			if e != api.OK {
				t.Errorf("Decode(%x): %d", b, e)
			}
			return text
		})
	}
}

// P14.3: what is refused is not changed either.
func TestMemoryOfWhatIsRefused(t *testing.T) {
	for _, b := range [][]byte{{0x1e}, {0xff}, {0x1f, 0xff, 0xff}, make([]byte, api.MaxData+1)} {
		wantApart(t, "Decode", b, func(b []byte) []byte {
			text, e := huff.Decode(b)
			if e == api.OK {
				t.Errorf("Decode(%.40x): %d", b, e)
			}
			return text
		})
	}
}

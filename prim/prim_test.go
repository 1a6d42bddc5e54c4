package prim_test

import (
	"bytes"
	"encoding/binary"
	"encoding/hex"
	"fmt"
	"math"
	"slices"
	"testing"

	"turnpike/api"
	"turnpike/prim"
)

// run: n bytes, the one at i being step*i + first.
func run(n, step, first int) []byte {
	b := make([]byte, n)
	for i := range b {
		b[i] = byte(step*i + first)
	}
	return b
}

// roomy: the same bytes with spare room behind them, that is filled.
func roomy(b []byte) []byte {
	whole := append(slices.Clone(b), bytes.Repeat([]byte{0x99}, 40)...)
	return whole[:len(b)]
}

// spoil writes over a list and its spare room.
func spoil(b []byte) {
	b = b[:cap(b)]
	for i := range b {
		b[i] ^= 0xff
	}
}

// turn: the same bytes with one bit turned.
func turn(b []byte, bit int) []byte {
	b = slices.Clone(b)
	b[bit/8] ^= 1 << (bit % 8)
	return b
}

// digestOf: the digest by the chapter's words, of pieces laid one behind the other.
func digestOf(pieces ...[]byte) []byte {
	data := slices.Concat(pieces...)
	a, b := uint64(0x9e3779b97f4a7c15), uint64(0xc2b2ae3d27d4eb4f)
	for _, x := range binary.LittleEndian.AppendUint32(slices.Clone(data), uint32(len(data))) {
		product := (a ^ uint64(x)) * 0x100000001b3
		a = (product<<23 | product>>41) + b
		mixed := b ^ a
		b = (mixed<<41|mixed>>23)*0x9e3779b1 + uint64(x)
	}
	return binary.BigEndian.AppendUint64(binary.BigEndian.AppendUint64(nil, a), b)
}

// one: a byte of its own.
func one(x int) []byte {
	return []byte{byte(x)}
}

// four: a number in four bytes, the highest first.
func four(n int) []byte {
	return binary.BigEndian.AppendUint32(nil, uint32(n))
}

// wantHex holds bytes against digits.
func wantHex(t *testing.T, what string, got []byte, digits string) {
	t.Helper()
	if hex.EncodeToString(got) != digits {
		t.Errorf("%s: %x; want %s", what, got, digits)
	}
}

// P7.1: digests that were worked out apart from this program.
func TestDigestOfKnownBytes(t *testing.T) {
	for _, c := range []struct {
		n      int
		digits string
	}{
		{0, "69b1f8597075f6696acbbbc206b92009"},
		{1, "751ac149901d66f92d0bf0b72909a381"},
		{2, "68ccc46174e85745aa6f09b3b5551f95"},
		{7, "3dcf9f8b88d7c22a6dccef53463cf5c2"},
		{8, "588f90678a6bd4827abc71dbe6f80c3c"},
		{15, "ef6f0439e9e4bd96146b9e510080a68e"},
		{16, "b7dd5549c5166c4e6e2fd6b3625203fd"},
		{17, "00607abadef685beafd1079876cabd50"},
		{255, "3409ac302586bd67e0aeaced08c6424f"},
		{256, "afd943f8aa479bd5ccf3745e4c5e624f"},
		{257, "f7dbe81e0fbb84a82024468b39a0dbc7"},
		{65535, "46a39b552829f5efbc035817d5d6914a"},
		{65536, "71bb0a4de23b338e4ed37bb021ebf563"},
		{70000, "069cbe9a36faf4b06c41854d3ca8d360"},
	} {
		sum := prim.Digest(run(c.n, 7, 3))
		wantHex(t, "Digest", sum[:], c.digits)
	}
	for text, digits := range map[string]string{
		"\x00": "784679c23fa89f2356c7920d3a207539",
		"\xff": "98bdb1f312908b02a0cda5c4faeed155",
		"abc":  "e4d49997fb0f3bded90627a1eed7747a",
	} {
		sum := prim.Digest([]byte(text))
		wantHex(t, fmt.Sprintf("Digest of %q", text), sum[:], digits)
	}
	if prim.Digest(nil) != prim.Digest([]byte{}) {
		t.Errorf("Digest of nil is not that of no bytes")
	}
}

// P7.1: every length about the first blocks, and about those that change a byte of the length, against the chapter's words.
func TestDigestOfEveryLength(t *testing.T) {
	lengths := []int{1<<14 - 1, 1 << 14, 1<<14 + 1, 1<<16 - 1, 1<<16 + 1, 1<<24 - 1, 1 << 24, 1<<24 + 1}
	for n := range 600 {
		lengths = append(lengths, n)
	}
	for _, n := range lengths {
		data := run(n, 13, 250)
		if sum := prim.Digest(data); !bytes.Equal(sum[:], digestOf(data)) {
			t.Errorf("Digest of %d bytes: %x; want %x", n, sum, digestOf(data))
		}
	}
}

// P7.1: bytes that differ in a bit, or in their number alone, have digests of their own.
func TestDigestsDiffer(t *testing.T) {
	seen := map[[16]byte]int{}
	for n := range 300 {
		seen[prim.Digest(make([]byte, n))]++
	}
	data := run(40, 5, 1)
	for bit := range 8 * len(data) {
		seen[prim.Digest(turn(data, bit))]++
	}
	if len(seen) != 300+8*len(data) {
		t.Errorf("%d digests of %d lists of bytes", len(seen), 300+8*len(data))
	}
}

// P7.5: masks that were worked out apart from this program.
func TestMaskOfKnownBytes(t *testing.T) {
	for _, c := range []struct {
		key, sample []byte
		digits      string
	}{
		{nil, make([]byte, 16), "5ee88e0d5a"},
		{[]byte("key"), run(16, 7, 3), "ec1524d802"},
		{run(255, 7, 3), run(40, 7, 3), "3fe7b113f8"},
	} {
		mask, e := prim.Mask(c.key, c.sample)
		if wantHex(t, "Mask", mask[:], c.digits); e != api.OK {
			t.Errorf("Mask: %d", e)
		}
	}
}

// P7.5: each length of key and sample about the edges, ErrKey told ahead of ErrShort; behind 16 bytes a sample is not looked at.
func TestMaskEdges(t *testing.T) {
	for _, k := range []int{0, 1, 15, 16, 17, 254, 255, 256, 257, 511, 512, 513, 70000} {
		for _, s := range []int{0, 1, 14, 15, 16, 17, 31, 32, 255, 256, 272, api.MaxData + 1} {
			key, sample := run(k, 3, 4), run(s, 5, 6)
			mask, e := prim.Mask(key, sample)
			want, wantE := [5]byte{}, api.OK
			switch {
			case k > 255:
				wantE = api.ErrKey
			case s < 16:
				wantE = api.ErrShort
			default:
				want = [5]byte(digestOf(one(3), one(k), key, sample[:16]))
			}
			if mask != want || e != wantE {
				t.Errorf("Mask with a key of %d and a sample of %d bytes: %x, %d; want %x, %d", k, s, mask, e, want, wantE)
			}
		}
	}
}

// P7.5: each bit of key and of the first 16 bytes of sample counts, and none behind them.
func TestMaskBits(t *testing.T) {
	key, sample := run(9, 3, 4), run(20, 5, 6)
	mask, _ := prim.Mask(key, sample)
	for bit := range 8 * len(key) {
		if other, e := prim.Mask(turn(key, bit), sample); other == mask || e != api.OK {
			t.Errorf("Mask with the key's bit %d turned: %x, %d", bit, other, e)
		}
	}
	for bit := range 8 * len(sample) {
		if other, e := prim.Mask(key, turn(sample, bit)); (other == mask) != (bit >= 8*16) || e != api.OK {
			t.Errorf("Mask with the sample's bit %d turned: %x, %d", bit, other, e)
		}
	}
}

// P7.7: what is handed in stays as it is, its spare room too; what is told shares nothing with it, nor with another answer.
func TestMemory(t *testing.T) {
	sealed, _ := prim.Seal([]byte("k"), []byte("n"), []byte("ad"), run(33, 3, 1))
	long := make([]byte, api.MaxData+17)
	for name, call := range map[string]struct {
		lists [][]byte
		tell  func(lists [][]byte) []byte
	}{
		"Digest": {[][]byte{run(30, 1, 1)}, func(l [][]byte) []byte { sum := prim.Digest(l[0]); return sum[:] }},
		"Expand": {[][]byte{run(30, 1, 1)}, func(l [][]byte) []byte { b, _ := prim.Expand(l[0], "label", 40); return b }},
		"Seal": {[][]byte{run(3, 1, 1), run(4, 1, 1), run(5, 1, 1), run(33, 1, 1)}, func(l [][]byte) []byte {
			b, _ := prim.Seal(l[0], l[1], l[2], l[3])
			return b
		}},
		"Seal of none": {[][]byte{{}, {}, {}, {}}, func(l [][]byte) []byte { b, _ := prim.Seal(l[0], l[1], l[2], l[3]); return b }},
		"Open": {[][]byte{[]byte("k"), []byte("n"), []byte("ad"), sealed}, func(l [][]byte) []byte {
			b, _ := prim.Open(l[0], l[1], l[2], l[3])
			return b
		}},
		"Open refused":   {[][]byte{[]byte("k"), []byte("n"), []byte("xx"), sealed}, func(l [][]byte) []byte { b, _ := prim.Open(l[0], l[1], l[2], l[3]); return b }},
		"Open too long":  {[][]byte{{1}, {2}, {3}, long}, func(l [][]byte) []byte { b, _ := prim.Open(l[0], l[1], l[2], l[3]); return b }},
		"Open too short": {[][]byte{{1}, {2}, {3}, {4}}, func(l [][]byte) []byte { b, _ := prim.Open(l[0], l[1], l[2], l[3]); return b }},
		"Mask":           {[][]byte{run(3, 1, 1), run(16, 1, 1)}, func(l [][]byte) []byte { m, _ := prim.Mask(l[0], l[1]); return m[:] }},
	} {
		var lists, before [][]byte
		for _, list := range call.lists {
			list = roomy(list)
			lists = append(lists, list)
			before = append(before, slices.Clone(list[:cap(list)]))
		}
		first, second := call.tell(lists), call.tell(lists)
		want := slices.Clone(first)
		spoil(second)
		for i, list := range lists {
			if !bytes.Equal(list[:cap(list)], before[i]) {
				t.Errorf("%s: argument %d was changed, or shares memory with what is told", name, i)
			}
			spoil(list)
		}
		if !bytes.Equal(first, want) {
			t.Errorf("%s: what is told shares memory", name)
		}
	}
}

// P7.7: one list may be handed in for all.
func TestOneListForAll(t *testing.T) {
	list := run(100, 9, 2)
	want, _ := prim.Seal(slices.Clone(list), slices.Clone(list), slices.Clone(list), slices.Clone(list))
	sealed, e := prim.Seal(list, list, list, list)
	if !bytes.Equal(sealed, want) || e != api.OK {
		t.Errorf("Seal: %x, %d; want %x", sealed, e, want)
	}
	if plain, e := prim.Open(list, list, list, sealed); !bytes.Equal(plain, list) || e != api.OK {
		t.Errorf("Open: %x, %d", plain, e)
	}
}

// P1: no call panics, whatever it is given.
func TestNoPanic(t *testing.T) {
	lists := [][]byte{nil, {}, {0}, make([]byte, 15), make([]byte, 16), make([]byte, 17), make([]byte, 255), make([]byte, 256), make([]byte, 600), make([]byte, api.MaxData), make([]byte, api.MaxData+16), make([]byte, api.MaxData+17), make([]byte, 100000)}
	numbers := []int{math.MinInt, math.MinInt + 1, -1 << 61, -1 << 32, -1, 0, 1, 2, 16, 37, 1023, 1024, 1025, 1 << 32, 1<<61 - 2, 1<<61 - 1, 1 << 61, api.MaxNum, math.MaxInt - 1, math.MaxInt}
	for _, a := range lists {
		prim.Digest(a)
		for _, b := range lists {
			prim.Mask(a, b)
			for _, n := range numbers {
				prim.Expand(a, string(b), n)
			}
			prim.Seal(a, b, a, b)
			prim.Seal(b, b, a, a)
			prim.Open(a, b, a, b)
			prim.Open(b, b, a, a)
		}
	}
	for _, a := range numbers {
		prim.Public(a)
		for _, b := range numbers {
			prim.Power(a, b)
			prim.Agree(a, b)
		}
	}
}

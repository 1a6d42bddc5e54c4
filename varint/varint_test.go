package varint_test

import (
	"bytes"
	"encoding/binary"
	"math"
	"math/rand"
	"testing"

	"turnpike/api"
	"turnpike/varint"
)

// forms are numbers with their shortest forms, at the bounds of each form and between them.
var forms = []struct {
	n    int
	form []byte
}{
	{0, []byte{0x00}},
	{1, []byte{0x01}},
	{37, []byte{0x25}},
	{1<<6 - 1, []byte{0x3f}},
	{1 << 6, []byte{0x40, 0x40}},
	{255, []byte{0x40, 0xff}},
	{256, []byte{0x41, 0x00}},
	{15293, []byte{0x7b, 0xbd}},
	{1<<14 - 1, []byte{0x7f, 0xff}},
	{1 << 14, []byte{0x80, 0x00, 0x40, 0x00}},
	{494878333, []byte{0x9d, 0x7f, 0x3e, 0x7d}},
	{1<<30 - 1, []byte{0xbf, 0xff, 0xff, 0xff}},
	{1 << 30, []byte{0xc0, 0x00, 0x00, 0x00, 0x40, 0x00, 0x00, 0x00}},
	{1 << 32, []byte{0xc0, 0x00, 0x00, 0x01, 0x00, 0x00, 0x00, 0x00}},
	{151288809941952652, []byte{0xc2, 0x19, 0x7c, 0x5e, 0xff, 0x14, 0xe8, 0x8c}},
	{api.MaxNum - 1, []byte{0xff, 0xff, 0xff, 0xff, 0xff, 0xff, 0xff, 0xfe}},
	{api.MaxNum, []byte{0xff, 0xff, 0xff, 0xff, 0xff, 0xff, 0xff, 0xff}},
}

// formless are numbers that no form holds.
var formless = []int{-1, -2, -64, -(1 << 30), -api.MaxNum - 1, math.MinInt, api.MaxNum + 1, api.MaxNum + 2, math.MaxInt}

// longForm writes n in a form of the size, by the library's means and not by the package's.
func longForm(n, size int) []byte {
	var b [8]byte
	binary.BigEndian.PutUint64(b[:], uint64(n))
	form := append([]byte(nil), b[8-size:]...)
	form[0] |= map[int]byte{1: 0x00, 2: 0x40, 4: 0x80, 8: 0xc0}[size]
	return form
}

// wantGet asks Get for one answer.
func wantGet(t *testing.T, b []byte, at, n, end int, e api.Errno) {
	t.Helper()
	gotN, gotEnd, gotE := varint.Get(b, at)
	if gotN != n || gotEnd != end || gotE != e {
		t.Errorf("Get(%x, %d): %d, %d, %d; want %d, %d, %d", b, at, gotN, gotEnd, gotE, n, end, e)
	}
}

// P1.1
func TestSizeIsThatOfTheShortestForm(t *testing.T) {
	for _, c := range forms {
		if got := varint.Size(c.n); got != len(c.form) {
			t.Errorf("Size(%d): %d, want %d", c.n, got, len(c.form))
		}
	}
}

// P1.1
func TestPutWritesTheShortestForm(t *testing.T) {
	for _, c := range forms {
		got, e := varint.Put(c.n)
		if !bytes.Equal(got, c.form) || e != api.OK {
			t.Errorf("Put(%d): %x, %d; want %x", c.n, got, e, c.form)
		}
	}
}

// P1.1
func TestNumbersWithoutAForm(t *testing.T) {
	for _, n := range formless {
		if got := varint.Size(n); got != 0 {
			t.Errorf("Size(%d): %d, want 0", n, got)
		}
		if got, e := varint.Put(n); len(got) != 0 || e != api.ErrNumber {
			t.Errorf("Put(%d): %x, %d; want nothing, ErrNumber", n, got, e)
		}
	}
}

// P1.1, P1.2
func TestEachPowerAndItsNeighboursGoThereAndBack(t *testing.T) {
	for shift := range 62 {
		for _, n := range []int{1<<shift - 1, 1 << shift, 1<<shift + 1} {
			form, e := varint.Put(n)
			if e != api.OK || len(form) != varint.Size(n) || !bytes.Equal(form, longForm(n, len(form))) {
				t.Errorf("Put(%d): %x, %d", n, form, e)
			}
			wantGet(t, form, 0, n, len(form), api.OK)
		}
	}
}

// P1.2
func TestGetReadsAFormAtAnyPlace(t *testing.T) {
	for _, c := range forms {
		for before := range 4 {
			for after := range 4 {
				b := bytes.Repeat([]byte{0xff}, before)
				b = append(b, c.form...)
				b = append(b, bytes.Repeat([]byte{0xff}, after)...)
				wantGet(t, b, before, c.n, before+len(c.form), api.OK)
			}
		}
	}
}

// P1.2
func TestGetReadsLongForms(t *testing.T) {
	wantGet(t, []byte{0x40, 0x25}, 0, 37, 2, api.OK)
	for _, c := range forms {
		for size := len(c.form); size <= 8; size *= 2 {
			wantGet(t, longForm(c.n, size), 0, c.n, size, api.OK)
		}
	}
}

// P1.2
func TestGetRefusesAFormThatIsCutOff(t *testing.T) {
	wantGet(t, []byte{0x7b}, 0, 0, 0, api.ErrShort)
	for _, c := range forms {
		for cut := range len(c.form) {
			// The spare room holds the rest, which Get must not see.
			wantGet(t, c.form[:cut], 0, 0, 0, api.ErrShort)
			wantGet(t, append([]byte{1, 2}, c.form[:cut]...), 2, 0, 0, api.ErrShort)
		}
	}
}

// P1.2
func TestGetAtTheEndAndBehindIt(t *testing.T) {
	for size := range 10 {
		b := make([]byte, size, size+5)
		wantGet(t, b, size, 0, 0, api.ErrShort)
		for _, at := range []int{size + 1, size + 2, math.MaxInt, -1, -2, math.MinInt} {
			wantGet(t, b, at, 0, 0, api.ErrPlace)
		}
	}
	wantGet(t, nil, 0, 0, 0, api.ErrShort)
	wantGet(t, nil, 1, 0, 0, api.ErrPlace)
	wantGet(t, nil, -1, 0, 0, api.ErrPlace)
}

// P1.2
func TestGetOfAnyBytes(t *testing.T) {
	rng := rand.New(rand.NewSource(1))
	for range 20000 {
		b := make([]byte, 1+rng.Intn(12))
		rng.Read(b)
		at := rng.Intn(len(b))
		size := 1 << (b[at] >> 6)
		if at+size > len(b) {
			wantGet(t, b, at, 0, 0, api.ErrShort)
			continue
		}
		var wide [8]byte
		copy(wide[8-size:], b[at:at+size])
		wide[8-size] &= 0x3f
		wantGet(t, b, at, int(binary.BigEndian.Uint64(wide[:])), at+size, api.OK)
	}
}

// P1.5
func TestGetLeavesTheBytesAsTheyWere(t *testing.T) {
	for _, c := range forms {
		b := append(append([]byte{9}, c.form...), 7, 8)
		was := bytes.Clone(b)
		varint.Get(b[:1+len(c.form)], 1)
		varint.Get(b[:len(c.form)], 1)
		if !bytes.Equal(b, was) {
			t.Errorf("Get changed %x to %x", was, b)
		}
	}
}

// P1.5
func TestPutTellsNewMemory(t *testing.T) {
	for _, c := range forms {
		first, _ := varint.Put(c.n)
		spoil(first)
		second, _ := varint.Put(c.n)
		if !bytes.Equal(second, c.form) {
			t.Errorf("Put(%d) tells memory that was told: %x", c.n, second)
		}
		spoil(first)
		if !bytes.Equal(second, c.form) {
			t.Errorf("two answers of Put(%d) share memory: %x", c.n, second)
		}
	}
}

// spoil changes every byte of b and of its spare room.
func spoil(b []byte) {
	whole := b[:cap(b)]
	for i := range whole {
		whole[i] ^= 0xff
	}
}

package varint_test

import (
	"bytes"
	"math"
	"math/rand"
	"testing"

	"turnpike/api"
	"turnpike/varint"
)

// wantState asks for a reader's place, what is left, and its fault.
func wantState(t *testing.T, r *varint.Reader, at, left int, fault api.Errno) {
	t.Helper()
	if r.At() != at || r.Left() != left || r.Fault() != fault {
		t.Errorf("At %d, Left %d, Fault %d; want %d, %d, %d", r.At(), r.Left(), r.Fault(), at, left, fault)
	}
}

// wantStuck asks whether a reader with a fault answers nothing and stays as it is, whatever is read.
func wantStuck(t *testing.T, r *varint.Reader, at int, fault api.Errno) {
	t.Helper()
	for range 2 {
		wantState(t, r, at, 0, fault)
		if n := r.Number(); n != 0 {
			t.Errorf("Number with a fault: %d", n)
		}
		if n := r.Byte(); n != 0 {
			t.Errorf("Byte with a fault: %d", n)
		}
		for _, n := range []int{0, 1, 2, -1, 100, math.MaxInt, math.MinInt} {
			if b := r.Bytes(n); len(b) != 0 {
				t.Errorf("Bytes(%d) with a fault: %x", n, b)
			}
		}
		wantState(t, r, at, 0, fault)
	}
}

// P1.3, P1.4
func TestReaderGoesThroughItems(t *testing.T) {
	r := varint.Open([]byte{0x25, 0x7b, 0xbd, 0xff, 1, 2, 3, 0x40, 0x25})
	wantState(t, r, 0, 9, api.OK)
	if n := r.Number(); n != 37 {
		t.Errorf("Number: %d", n)
	}
	wantState(t, r, 1, 8, api.OK)
	if n := r.Number(); n != 15293 {
		t.Errorf("Number: %d", n)
	}
	wantState(t, r, 3, 6, api.OK)
	if n := r.Byte(); n != 255 {
		t.Errorf("Byte: %d", n)
	}
	wantState(t, r, 4, 5, api.OK)
	if b := r.Bytes(3); !bytes.Equal(b, []byte{1, 2, 3}) {
		t.Errorf("Bytes: %x", b)
	}
	wantState(t, r, 7, 2, api.OK)
	if n := r.Number(); n != 37 {
		t.Errorf("Number of a long form: %d", n)
	}
	wantState(t, r, 9, 0, api.OK)
}

// P1.3
func TestReaderReadsEachForm(t *testing.T) {
	var all []byte
	for _, c := range forms {
		all = append(all, c.form...)
	}
	r, at := varint.Open(all), 0
	for _, c := range forms {
		if n := r.Number(); n != c.n {
			t.Errorf("Number: %d, want %d", n, c.n)
		}
		at += len(c.form)
		wantState(t, r, at, len(all)-at, api.OK)
	}
}

// P1.3
func TestByteReadsEachByte(t *testing.T) {
	for value := range 256 {
		r := varint.Open([]byte{byte(value), 1})
		if n := r.Byte(); n != value {
			t.Errorf("Byte: %d, want %d", n, value)
		}
		wantState(t, r, 1, 1, api.OK)
	}
}

// P1.3, P1.4
func TestReadingNothingAndReadingAll(t *testing.T) {
	for size := range 5 {
		r := varint.Open(bytes.Repeat([]byte{7}, size))
		if b := r.Bytes(0); len(b) != 0 {
			t.Errorf("Bytes(0): %x", b)
		}
		wantState(t, r, 0, size, api.OK)
		if b := r.Bytes(size); !bytes.Equal(b, bytes.Repeat([]byte{7}, size)) {
			t.Errorf("Bytes(%d): %x", size, b)
		}
		wantState(t, r, size, 0, api.OK)
		if b := r.Bytes(0); len(b) != 0 {
			t.Errorf("Bytes(0) at the end: %x", b)
		}
		wantState(t, r, size, 0, api.OK)
	}
}

// P1.3, P1.4
func TestReaderFaultsAtTheEnd(t *testing.T) {
	for _, b := range [][]byte{nil, {}, {1}, {1, 2, 3}} {
		r := varint.Open(b)
		r.Bytes(len(b))
		if n := r.Number(); n != 0 {
			t.Errorf("Number at the end: %d", n)
		}
		wantStuck(t, r, len(b), api.ErrShort)

		r = varint.Open(b)
		r.Bytes(len(b))
		if n := r.Byte(); n != 0 {
			t.Errorf("Byte at the end: %d", n)
		}
		wantStuck(t, r, len(b), api.ErrShort)

		r = varint.Open(b)
		r.Bytes(len(b))
		if got := r.Bytes(1); len(got) != 0 {
			t.Errorf("Bytes(1) at the end: %x", got)
		}
		wantStuck(t, r, len(b), api.ErrShort)
	}
}

// P1.3
func TestNumberThatIsCutOffIsAFaultThatStays(t *testing.T) {
	for _, c := range forms {
		for cut := 1; cut < len(c.form); cut++ {
			r := varint.Open(append([]byte{5}, c.form[:cut]...))
			r.Byte()
			if n := r.Number(); n != 0 {
				t.Errorf("Number of %x: %d", c.form[:cut], n)
			}
			wantStuck(t, r, 1, api.ErrShort)
		}
	}
}

// P1.3
func TestBytesOfTooMany(t *testing.T) {
	for _, n := range []int{3, 4, 1 << 40, api.MaxNum, math.MaxInt} {
		r := varint.Open([]byte{1, 2, 3})
		r.Byte()
		if b := r.Bytes(n); len(b) != 0 {
			t.Errorf("Bytes(%d): %x", n, b)
		}
		wantStuck(t, r, 1, api.ErrShort)
	}
}

// P1.3
func TestBytesOfANumberBelowNought(t *testing.T) {
	for _, n := range []int{-1, -2, -3, math.MinInt} {
		r := varint.Open([]byte{1, 2, 3})
		r.Bytes(2)
		if b := r.Bytes(n); len(b) != 0 {
			t.Errorf("Bytes(%d): %x", n, b)
		}
		wantStuck(t, r, 2, api.ErrNumber)

		r = varint.Open(nil)
		r.Bytes(n)
		wantStuck(t, r, 0, api.ErrNumber)
	}
}

// P1.3, P1.4: a plain model of a reader beside the package's, over calls of all kinds.
func TestReaderIsAsItsModel(t *testing.T) {
	rng := rand.New(rand.NewSource(2))
	for range 5000 {
		b := make([]byte, rng.Intn(30))
		rng.Read(b)
		r, at, fault := varint.Open(b), 0, api.OK
		for range 12 {
			var want []byte
			wantNumber := 0
			kind, count := rng.Intn(3), rng.Intn(12)-1
			if kind == 1 {
				count = 1
			}
			if fault == api.OK {
				switch n, end, e := varint.Get(b, at); {
				case kind == 0 && e != api.OK:
					fault = e
				case kind == 0:
					wantNumber, at = n, end
				case count < 0:
					fault = api.ErrNumber
				case at+count > len(b):
					fault = api.ErrShort
				default:
					want = b[at : at+count]
					at += count
				}
			}
			switch kind {
			case 0:
				if n := r.Number(); n != wantNumber {
					t.Fatalf("%x: Number %d, want %d", b, n, wantNumber)
				}
			case 1:
				if len(want) == 1 {
					wantNumber = int(want[0])
				}
				if n := r.Byte(); n != wantNumber {
					t.Fatalf("%x: Byte %d, want %d", b, n, wantNumber)
				}
			case 2:
				if got := r.Bytes(count); !bytes.Equal(got, want) {
					t.Fatalf("%x: Bytes(%d) %x, want %x", b, count, got, want)
				}
			}
			left := len(b) - at
			if fault != api.OK {
				left = 0
			}
			wantState(t, r, at, left, fault)
		}
	}
}

// P1.3, P1.5
func TestReaderReadsACopy(t *testing.T) {
	b := []byte{0x25, 1, 2, 3, 4}
	r := varint.Open(b)
	spoil(b)
	if n := r.Number(); n != 37 {
		t.Errorf("Number: %d", n)
	}
	spoil(b)
	b[1], b[2] = 88, 99
	if n := r.Byte(); n != 1 {
		t.Errorf("Byte: %d", n)
	}
	if got := r.Bytes(3); !bytes.Equal(got, []byte{2, 3, 4}) {
		t.Errorf("Bytes: %x", got)
	}
}

// P1.5
func TestReaderLeavesTheBytesAsTheyWere(t *testing.T) {
	whole := []byte{0x25, 1, 2, 3, 4, 5, 6}
	was := bytes.Clone(whole)
	r := varint.Open(whole[:4])
	r.Number()
	r.Byte()
	spoil(r.Bytes(2))
	spoil(r.Bytes(1))
	if !bytes.Equal(whole, was) {
		t.Errorf("a reader changed %x to %x", was, whole)
	}
}

// P1.5
func TestBytesTellsNewMemory(t *testing.T) {
	r := varint.Open([]byte{1, 2, 3, 4, 5, 6})
	first := r.Bytes(2)
	spoil(first)
	second := r.Bytes(2)
	if !bytes.Equal(second, []byte{3, 4}) {
		t.Errorf("what was told reaches the reader: %x", second)
	}
	spoil(first)
	spoil(r.Bytes(0))
	if !bytes.Equal(second, []byte{3, 4}) {
		t.Errorf("two answers share memory: %x", second)
	}
	spoil(second)
	if third := r.Bytes(2); !bytes.Equal(third, []byte{5, 6}) {
		t.Errorf("what was told reaches the reader: %x", third)
	}
}

// P1.3: readers over the same bytes are on their own.
func TestReadersAreOnTheirOwn(t *testing.T) {
	b := []byte{1, 2}
	one, two := varint.Open(b), varint.Open(b)
	one.Bytes(-1)
	if n := two.Byte(); n != 1 {
		t.Errorf("Byte: %d", n)
	}
	wantState(t, two, 1, 1, api.OK)
	wantStuck(t, one, 0, api.ErrNumber)
}

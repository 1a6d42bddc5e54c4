package params_test

import (
	"bytes"
	"encoding/binary"
	"slices"
	"testing"

	"turnpike/api"
	"turnpike/params"
)

// formOf: a number in a form of so many bytes.
func formOf(n, size int) []byte {
	b := binary.BigEndian.AppendUint64(nil, uint64(n))[8-size:]
	b[0] |= map[int]byte{1: 0, 2: 0x40, 4: 0x80, 8: 0xc0}[size]
	return b
}

// shortest: a number in its shortest form.
func shortest(n int) []byte {
	for _, size := range []int{1, 2, 4} {
		if n < 1<<(8*size-2) {
			return formOf(n, size)
		}
	}
	return formOf(n, 8)
}

// told: a parameter as bytes, in shortest forms.
func told(id int, value []byte) []byte {
	return slices.Concat(shortest(id), shortest(len(value)), value)
}

// encodingOf: the bytes of parameters that are right, by the chapter's words.
func encodingOf(p params.Params) []byte {
	items := map[int][]byte{}
	for _, l := range numberLines() {
		if n := *l.at(&p); n != l.usual {
			items[l.id] = told(l.id, shortest(n))
		}
	}
	for _, l := range bytesLines() {
		if *l.has(&p) {
			items[l.id] = told(l.id, *l.at(&p))
		}
	}
	if p.NoMove {
		items[12] = []byte{12, 0}
	}
	var b []byte
	for id := range 17 {
		b = append(b, items[id]...)
	}
	return b
}

// wantBytes asks Encode for just these bytes.
func wantBytes(t *testing.T, p params.Params, server bool, want []byte) {
	t.Helper()
	if b, e := params.Encode(p, server); !bytes.Equal(b, want) || e != api.OK {
		t.Errorf("Encode of %+v, server %v: %x, %d; want %x", p, server, b, e, want)
	}
}

// P9.2: bytes that stand in the chapter, or were written down by hand.
func TestEncodeKnown(t *testing.T) {
	for _, server := range sides() {
		wantBytes(t, params.Usual(), server, nil)
		p := params.Usual()
		p.Idle, p.HasSrc, p.Src = 30, true, []byte{1, 2}
		wantBytes(t, p, server, unhex(t, "01011e 0f020102"))
		wantBytes(t, allOf(false), server, unhex(t, "010101 030244b0 040103 050104 060105 070106 080107 090108 0a0109 0b010a 0c00 0e010b 0f14 5a61686f767d848b9299a0a7aeb5bcc3cad1d8df"))
	}
	wantBytes(t, allOf(true), true, unhex(t, "0014 01080f161d242b323940474e555c636a71787f86 010101 0210 646b727980878e959ca3aab1b8bfc6cd 030244b0 040103 050104 060105 070106 080107 090108 0a0109 0b010a 0c00 0e010b 0f14 5a61686f767d848b9299a0a7aeb5bcc3cad1d8df 1014 c8cfd6dde4ebf2f900070e151c232a31383f464d"))
}

// P9.2: each number alone, at the edges; none where it is the usual one.
func TestEncodeNumbers(t *testing.T) {
	for _, server := range sides() {
		for _, l := range numberLines() {
			for _, n := range append(edges(), l.usual) {
				if n < l.least || n > l.most {
					continue
				}
				p := params.Usual()
				*l.at(&p) = n
				want := told(l.id, shortest(n))
				if n == l.usual {
					want = nil
				}
				wantBytes(t, p, server, want)
				p = allOf(server)
				*l.at(&p) = n
				wantBytes(t, p, server, encodingOf(p))
			}
		}
	}
}

// P9.2: a number that is usual for another, or zero where that is not usual, is told.
func TestEncodeWhatIsUsualElsewhere(t *testing.T) {
	p := params.Usual()
	p.Exponent, p.AckDelay = 0, 0
	wantBytes(t, p, true, unhex(t, "0a0100 0b0100"))
	p = params.Usual()
	p.Idle, p.MaxData, p.Exponent, p.AckDelay, p.Cids = 65527, 25, 2, 3, 25
	wantBytes(t, p, false, unhex(t, "01048000fff7 040119 0a0102 0b0103 0e0119"))
}

// P9.2: bytes stand if they are had, empty ones too, and only then.
func TestEncodeBytes(t *testing.T) {
	for _, server := range sides() {
		for _, l := range bytesLines() {
			for _, n := range lengths() {
				p := params.Usual()
				*l.at(&p) = run(n, 5)
				wantBytes(t, p, server, nil)
				if n < l.least || n > l.most || l.serverAlone && !server {
					continue
				}
				*l.has(&p) = true
				wantBytes(t, p, server, told(l.id, run(n, 5)))
			}
		}
	}
	p := params.Usual()
	p.NoMove = true
	wantBytes(t, p, true, []byte{12, 0})
	wantBytes(t, p, false, []byte{12, 0})
}

// padded: the same bytes with spare room behind them.
func padded(b []byte) []byte {
	c := append(make([]byte, 0, len(b)+40), b...)
	copy(c[len(c):cap(c)], run(cap(c), 50))
	return c
}

// spoil changes all that a list holds, its spare room too.
func spoil(b []byte) {
	b = b[:cap(b)]
	for i := range b {
		b[i] ^= 0xa5
	}
}

// P9.4: Check and Encode leave what is handed in as it is, and Encode answers new memory.
func TestMemoryOfEncode(t *testing.T) {
	p := allOf(true)
	var before [][]byte
	for _, l := range bytesLines() {
		*l.at(&p) = padded(*l.at(&p))
		whole := *l.at(&p)
		before = append(before, slices.Clone(whole[:cap(whole)]))
	}
	unchanged := func(when string) {
		t.Helper()
		for i, l := range bytesLines() {
			whole := *l.at(&p)
			if !bytes.Equal(whole[:cap(whole)], before[i]) {
				t.Errorf("%s: %s has changed", when, l.name)
			}
		}
		if !same(p, allOf(true)) {
			t.Errorf("%s: the parameters have changed: %+v", when, p)
		}
	}
	params.Check(p, true)
	params.Check(p, false)
	unchanged("Check")
	first, _ := params.Encode(p, true)
	second, _ := params.Encode(p, true)
	unchanged("Encode")
	want := encodingOf(allOf(true))
	spoil(first)
	unchanged("a changed answer")
	if !bytes.Equal(second, want) {
		t.Errorf("two answers share memory")
	}
	for _, l := range bytesLines() {
		spoil(*l.at(&p))
	}
	if !bytes.Equal(second, want) {
		t.Errorf("an answer shares memory with what was handed in")
	}
	one := params.Usual()
	one.HasSrc, one.Src = true, padded(run(5, 1))
	b, _ := params.Encode(one, false)
	spoil(b)
	if !bytes.Equal(one.Src, run(5, 1)) {
		t.Errorf("the bytes of one parameter share memory with it")
	}
}

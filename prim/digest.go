package prim

import "math/bits"

const digestSize = 16

// Digest: 16 bytes of any bytes.
func Digest(data []byte) [16]byte {
	return start().with(data...).sum()
}

// mixer: a digest under way. It is a value, so that digests that begin alike go on from one beginning.
type mixer struct {
	a, b  uint64
	count uint32 // of the number of bytes a digest takes no more than four
}

// start: the digest ahead of the first byte.
func start() mixer {
	return mixer{a: 0x9e3779b97f4a7c15, b: 0xc2b2ae3d27d4eb4f}
}

// with: the digest behind these bytes.
func (m mixer) with(data ...byte) mixer {
	for _, x := range data {
		m.a = bits.RotateLeft64((m.a^uint64(x))*0x100000001b3, 23) + m.b
		m.b = bits.RotateLeft64(m.b^m.a, 41)*0x9e3779b1 + uint64(x)
	}
	m.count += uint32(len(data))
	return m
}

// sized: with bytes, at most 255, behind the number of them.
func (m mixer) sized(data []byte) mixer {
	return m.with(byte(len(data))).with(data...)
}

// number: with a number in four bytes.
func (m mixer) number(n int) mixer {
	return m.with(byte(n>>24), byte(n>>16), byte(n>>8), byte(n))
}

// sum: the digest, once all its bytes are in.
func (m mixer) sum() [digestSize]byte {
	n := m.count
	m = m.with(byte(n), byte(n>>8), byte(n>>16), byte(n>>24))
	var out [digestSize]byte
	for i := range 8 {
		out[i] = byte(m.a >> (56 - 8*i))
		out[8+i] = byte(m.b >> (56 - 8*i))
	}
	return out
}

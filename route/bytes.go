package route

import (
	"iter"
	"slices"

	"turnpike/prim"
)

const (
	secretSize = 16
	addrSize   = 4
	addrMost   = 1<<(8*addrSize) - 1
)

// within: whether a number is from 0 to most.
func within(n, most int) bool {
	return n >= 0 && n <= most
}

// laid: the last bytes of a number, so many, the highest first.
func laid(n uint64, size int) []byte {
	b := make([]byte, size)
	for at, x := range fromEnd(n, size) {
		b[at] = x
	}
	return b
}

// fromEnd goes through the last bytes of a number, each with the place that it has among so many, the lowest ahead of all others.
func fromEnd(n uint64, size int) iter.Seq2[int, byte] {
	return func(yield func(int, byte) bool) {
		rest := n
		for at := size - 1; at >= 0; at-- {
			if !yield(at, byte(rest)) {
				return
			}
			rest >>= 8
		}
	}
}

// numberOf: the number that bytes, at most eight, are, the highest first.
func numberOf(b []byte) uint64 {
	n := uint64(0)
	for _, x := range b {
		n = n<<8 | uint64(x)
	}
	return n
}

// sized: an id with its length in a byte ahead.
func sized(id []byte) []byte {
	return slices.Concat([]byte{byte(len(id))}, id)
}

// digest: layer 7's, of pieces one behind the other.
func digest(pieces ...[]byte) []byte {
	sum := prim.Digest(slices.Concat(pieces...))
	return sum[:]
}

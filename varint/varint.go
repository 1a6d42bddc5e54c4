// Package varint is layer 1: see shared/doc/01-varint.md.
package varint

import "turnpike/api"

// Size: how many bytes the shortest form of n has; 0, if n has no form.
func Size(n int) int {
	switch {
	case n < 0 || n > api.MaxNum:
		return 0
	case n < 1<<6:
		return 1
	case n < 1<<14:
		return 2
	case n < 1<<30:
		return 4
	}
	return 8
}

// Put: the shortest form of n.
func Put(n int) ([]byte, api.Errno) {
	size := Size(n)
	if size == 0 {
		return nil, api.ErrNumber
	}
	form := make([]byte, size)
	for i := size - 1; i >= 0; i-- {
		form[i] = byte(n & 0xff)
		n >>= 8
	}
	form[0] |= sizeBits(size)
	return form, api.OK
}

// sizeBits: the two highest bits of the first byte of a form of that size.
func sizeBits(size int) byte {
	switch size {
	case 1:
		return 0x00
	case 2:
		return 0x40
	case 4:
		return 0x80
	}
	return 0xc0
}

// Get: the number whose form begins at a place, and the place behind the form.
func Get(b []byte, at int) (n, end int, e api.Errno) {
	if at < 0 || at > len(b) {
		return 0, 0, api.ErrPlace
	}
	left := len(b) - at
	if left == 0 {
		return 0, 0, api.ErrShort
	}
	size := 1 << (b[at] >> 6)
	if size > left {
		return 0, 0, api.ErrShort
	}
	n = int(b[at] & 0x3f)
	for i := at + 1; i < at+size; i++ {
		n = n<<8 | int(b[i])
	}
	return n, at + size, api.OK
}

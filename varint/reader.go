package varint

import "turnpike/api"

// Reader goes through bytes item by item.
// It keeps its first fault, so that a caller may read on and ask once at the end.
type Reader struct {
	held  []byte
	at    int
	fault api.Errno
}

// Open: a reader at the beginning of a copy of b.
func Open(b []byte) *Reader {
	return &Reader{held: copyOf(b)}
}

// Number reads a number.
func (r *Reader) Number() int {
	if r.fault != api.OK {
		return 0
	}
	n, end, e := Get(r.held, r.at)
	if e != api.OK {
		r.fault = e
		return 0
	}
	r.at = end
	return n
}

// Byte reads a byte, as a number.
func (r *Reader) Byte() int {
	b := r.take(1)
	if len(b) == 0 {
		return 0
	}
	return int(b[0])
}

// Bytes reads n bytes.
func (r *Reader) Bytes(n int) []byte {
	return copyOf(r.take(n))
}

// take goes behind the next n bytes and answers them in the reader's own memory, so it is not for callers outside.
func (r *Reader) take(n int) []byte {
	if r.fault != api.OK {
		return nil
	}
	if n < 0 {
		r.fault = api.ErrNumber
		return nil
	}
	if n > len(r.held)-r.at {
		r.fault = api.ErrShort
		return nil
	}
	b := r.held[r.at : r.at+n]
	r.at += n
	return b
}

// Left: how many bytes are left behind the place; 0 with a fault.
func (r *Reader) Left() int {
	if r.fault != api.OK {
		return 0
	}
	return len(r.held) - r.at
}

// At: the place.
func (r *Reader) At() int { return r.at }

// Fault: what could not be read first, OK if all could.
func (r *Reader) Fault() api.Errno { return r.fault }

// copyOf: the same bytes in new memory.
func copyOf(b []byte) []byte {
	c := make([]byte, len(b))
	copy(c, b)
	return c
}

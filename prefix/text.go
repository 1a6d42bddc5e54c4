package prefix

import (
	"turnpike/api"
	"turnpike/huff"
)

// PutText: a text behind a prefix.
func PutText(s string, bits int, first byte) ([]byte, api.Errno) {
	if !isTextPrefix(bits) {
		return nil, api.ErrPrefix
	}
	if len(s) > api.MaxData {
		return nil, api.ErrHuge
	}
	text := []byte(s)
	first &^= codedFlag(bits)
	if huff.Size(text) < len(text) {
		text = huff.Encode(text)
		first |= codedFlag(bits)
	}
	length, e := Put(len(text), bits, first)
	if e != api.OK {
		return nil, e
	}
	return append(length, text...), api.OK
}

// GetText: the text at a place, and the place behind it.
func GetText(b []byte, at, bits int) (s string, end int, e api.Errno) {
	if !isTextPrefix(bits) {
		return "", 0, api.ErrPrefix
	}
	length, from, e := Get(b, at, bits)
	switch {
	case e != api.OK:
		return "", 0, e
	case length > api.MaxData:
		return "", 0, api.ErrHuge
	case length > len(b)-from:
		return "", 0, api.ErrShort
	}
	end = from + length
	if b[at]&codedFlag(bits) == 0 {
		return string(b[from:end]), end, api.OK
	}
	text, e := huff.Decode(b[from:end])
	if e != api.OK {
		return "", 0, e
	}
	return string(text), end, api.OK
}

// isTextPrefix: whether a text's prefix may have so many bits; the flag of a coded text stands above them in the same byte.
func isTextPrefix(bits int) bool {
	return isPrefix(bits) && bits < 8
}

// codedFlag: the bit above the prefix, that tells of a coded text.
func codedFlag(bits int) byte {
	return 1 << bits
}

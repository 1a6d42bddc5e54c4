package prim

import (
	"slices"

	"turnpike/api"
)

// Seal: the sealed bytes, with a tag.
func Seal(key, nonce, ad, plain []byte) ([]byte, api.Errno) {
	if e := check(key, nonce, ad, len(plain)); e != api.OK {
		return nil, e
	}
	hidden := overlay(key, nonce, plain)
	tag := tagOf(key, nonce, ad, hidden)
	return slices.Concat(hidden, tag[:]), api.OK
}

// Open: the plain bytes, if the tag is right.
func Open(key, nonce, ad, sealed []byte) ([]byte, api.Errno) {
	size := len(sealed) - digestSize
	if e := check(key, nonce, ad, size); e != api.OK {
		return nil, e
	}
	if size < 0 {
		return nil, api.ErrShort
	}
	hidden := sealed[:size]
	if tagOf(key, nonce, ad, hidden) != [digestSize]byte(sealed[size:]) {
		return nil, api.ErrTag
	}
	return overlay(key, nonce, hidden), api.OK
}

// check: what is too long for both ways, size being that of the plain bytes.
func check(key, nonce, ad []byte, size int) api.Errno {
	if len(key) > longest || len(nonce) > longest {
		return api.ErrKey
	}
	if len(ad) > api.MaxData || size > api.MaxData {
		return api.ErrHuge
	}
	return api.OK
}

// overlay: the bytes, each xor the stream's at its place; doing it again undoes it.
func overlay(key, nonce, data []byte) []byte {
	begun := start().with(forStream).sized(key).sized(nonce)
	out := make([]byte, 0, len(data))
	var block [digestSize]byte
	for i, x := range data {
		if i%digestSize == 0 {
			block = begun.number(i / digestSize).sum()
		}
		out = append(out, x^block[i%digestSize])
	}
	return out
}

// tagOf: the tag for what plain bytes became.
func tagOf(key, nonce, ad, hidden []byte) [digestSize]byte {
	begun := start().with(forTag).sized(key).sized(nonce)
	return begun.number(len(ad)).with(ad...).with(hidden...).sum()
}

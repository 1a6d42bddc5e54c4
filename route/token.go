package route

import (
	"bytes"
	"slices"

	"turnpike/api"
	"turnpike/prim"
)

const (
	nonceSize = 12
	untilSize = 8
)

// Token: a token.
func Token(secret []byte, addr, until int, id []byte) ([]byte, api.Errno) {
	if len(secret) != secretSize {
		return nil, api.ErrKey
	}
	if !within(addr, addrMost) {
		return nil, api.ErrAddr
	}
	if !within(until, api.MaxNum) {
		return nil, api.ErrNumber
	}
	if len(id) > api.MaxCid {
		return nil, api.ErrCid
	}
	bound := laid(uint64(addr), addrSize)
	plain := slices.Concat(laid(uint64(until), untilSize), id)
	nonce := nonceOf(bound, plain)
	sealed, _ := prim.Seal(tokenKey(secret), nonce, bound, plain) // layer 7 has nothing to refuse in lists as short as these
	return slices.Concat(nonce, sealed), api.OK
}

// Proof: the id of a token.
func Proof(secret []byte, addr, now int, token []byte) ([]byte, api.Errno) {
	if len(secret) != secretSize {
		return nil, api.ErrKey
	}
	if !within(addr, addrMost) {
		return nil, api.ErrAddr
	}
	plain, ok := opened(secret, addr, token)
	if !ok || after(now, numberOf(plain[:untilSize])) {
		return nil, api.ErrToken
	}
	return slices.Clone(plain[untilSize:]), api.OK
}

// opened: until and the id, as the bytes that a token holds; false, if it is none.
func opened(secret []byte, addr int, token []byte) (plain []byte, ok bool) {
	if len(token) < nonceSize {
		return nil, false
	}
	nonce, bound := token[:nonceSize], laid(uint64(addr), addrSize)
	plain, e := prim.Open(tokenKey(secret), nonce, bound, token[nonceSize:])
	if e != api.OK || !within(len(plain)-untilSize, api.MaxCid) || !bytes.Equal(nonce, nonceOf(bound, plain)) {
		return nil, false
	}
	return plain, true
}

// after: whether now is above until, which may be too great for an int.
func after(now int, until uint64) bool {
	return now > 0 && uint64(now) > until
}

// nonceOf: the nonce for an address and what is to be sealed.
func nonceOf(bound, plain []byte) []byte {
	return digest([]byte("nonce"), bound, plain)[:nonceSize]
}

// tokenKey: the key of tokens; the digest has no more bytes than it.
func tokenKey(secret []byte) []byte {
	return digest([]byte("token"), secret)
}

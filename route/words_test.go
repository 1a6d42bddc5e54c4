package route_test

import (
	"bytes"
	"encoding/binary"
	"encoding/hex"
	"reflect"
	"slices"
	"testing"

	"turnpike/api"
	"turnpike/route"
)

// text: a secret that is right.
const text = "0123456789abcdef"

// run: n bytes, the one at i being step*i + first.
func run(n, step, first int) []byte {
	b := make([]byte, n)
	for i := range b {
		b[i] = byte(step*i + first)
	}
	return b
}

// one: a byte of its own.
func one(x int) []byte {
	return []byte{byte(x)}
}

// four: a number in four bytes, the highest first.
func four(n int) []byte {
	return binary.BigEndian.AppendUint32(nil, uint32(n))
}

// eight: a number in eight bytes, the highest first.
func eight(n uint64) []byte {
	return binary.BigEndian.AppendUint64(nil, n)
}

// counted: bytes with their number in a byte ahead.
func counted(b []byte) []byte {
	return slices.Concat(one(len(b)), b)
}

// digestOf: layer 7's digest by its chapter's words, of pieces laid one behind the other.
func digestOf(pieces ...[]byte) []byte {
	data := slices.Concat(pieces...)
	a, b := uint64(0x9e3779b97f4a7c15), uint64(0xc2b2ae3d27d4eb4f)
	for _, x := range binary.LittleEndian.AppendUint32(slices.Clone(data), uint32(len(data))) {
		product := (a ^ uint64(x)) * 0x100000001b3
		a = (product<<23 | product>>41) + b
		mixed := b ^ a
		b = (mixed<<41|mixed>>23)*0x9e3779b1 + uint64(x)
	}
	return slices.Concat(eight(a), eight(b))
}

// sealedOf: layer 7's sealed bytes by its chapter's words.
func sealedOf(key, nonce, ad, plain []byte) []byte {
	hidden := slices.Clone(plain)
	for i := range hidden {
		hidden[i] ^= digestOf(one(1), counted(key), counted(nonce), four(i/16))[i%16]
	}
	return slices.Concat(hidden, digestOf(one(2), counted(key), counted(nonce), four(len(ad)), ad, hidden))
}

// idOf: an id by the chapter's words.
func idOf(secret []byte, worker, serial int) []byte {
	id := slices.Concat(one(worker), eight(uint64(serial))[1:])
	over := digestOf([]byte("cid"), secret)
	for i := range id {
		id[i] ^= over[i]
	}
	return id
}

// resetOf: a reset token by the chapter's words.
func resetOf(secret, id []byte) []byte {
	return digestOf([]byte("reset"), secret, id)
}

// nonceOf: a token's first bytes by the chapter's words.
func nonceOf(addr int, until uint64, id []byte) []byte {
	return digestOf([]byte("nonce"), four(addr), eight(until), id)[:12]
}

// tokenOf: a token by the chapter's words.
func tokenOf(secret []byte, addr int, until uint64, id []byte) []byte {
	return boxOf(secret, addr, nonceOf(addr, until, id), slices.Concat(eight(until), id))
}

// boxOf: what has the form of a token, with any first bytes and any bytes sealed behind them.
func boxOf(secret []byte, addr int, nonce, plain []byte) []byte {
	return slices.Concat(nonce, sealedOf(digestOf([]byte("token"), secret)[:16], nonce, four(addr), plain))
}

// junkReset: the answer to a short packet by the chapter's words.
func junkReset(secret, dst, datagram []byte) []byte {
	from := digestOf(datagram)
	junk := slices.Concat(digestOf(one(16), from, one(4), []byte("junk"), one(0)), digestOf(one(16), from, one(4), []byte("junk"), one(1)))[:26]
	junk[0] = junk[0]%64 + 64
	return slices.Concat(junk, resetOf(secret, dst))
}

// otherReply: the answer to a packet of another version by the chapter's words.
func otherReply(dst, src []byte) []byte {
	return slices.Concat([]byte{0x80, 0, 0, 0, 0}, counted(src), counted(dst), []byte{0, 0, 0, 1})
}

// retryReply: the answer that asks for a proof by the chapter's words; now has been cut.
func retryReply(secret, dst, src, id []byte, addr, now int) []byte {
	told := slices.Concat([]byte{0xf0, 0, 0, 0, 1}, counted(src), counted(id), tokenOf(secret, addr, uint64(now+10000), id))
	return slices.Concat(told, digestOf([]byte("retry"), counted(dst), told))
}

// unhex: the bytes of digits.
func unhex(t *testing.T, digits string) []byte {
	t.Helper()
	b, err := hex.DecodeString(digits)
	if err != nil {
		t.Fatal(err)
	}
	return b
}

// wantBytes holds bytes and an error against those that are wanted.
func wantBytes(t *testing.T, what string, got []byte, e api.Errno, want []byte, wantE api.Errno) {
	t.Helper()
	if !bytes.Equal(got, want) || e != wantE {
		t.Errorf("%s: %x, %d; want %x, %d", what, got, e, want, wantE)
	}
}

// tableOf: a table of a config that is right.
func tableOf(t *testing.T, c route.Config) *route.Table {
	t.Helper()
	x, e := route.New(c)
	if e != api.OK || x == nil {
		t.Fatalf("New: %d", e)
	}
	return x
}

// plain: a table with no more said than must be.
func plain(t *testing.T) *route.Table {
	t.Helper()
	return tableOf(t, route.Config{Secret: []byte(text), Worker: 3, Most: 1024})
}

// asking: a table that asks for proofs.
func asking(t *testing.T) *route.Table {
	t.Helper()
	return tableOf(t, route.Config{Secret: []byte(text), Worker: 3, Most: 1024, Retry: true})
}

// same: whether two verdicts are, with nil and empty lists as one.
func same(a, b route.Verdict) bool {
	for _, v := range []*route.Verdict{&a, &b} {
		for _, list := range []*[]byte{&v.First, &v.Peer, &v.Reply} {
			*list = append([]byte{}, *list...)
		}
	}
	return reflect.DeepEqual(a, b)
}

// wantVerdict asks a table for a verdict.
func wantVerdict(t *testing.T, x *route.Table, addr int, datagram []byte, now int, want route.Verdict) {
	t.Helper()
	if v, e := x.Look(addr, datagram, now); e != api.OK || !same(v, want) {
		t.Errorf("Look(%d, %d bytes %.24x, %d): %x, %d; want %x", addr, len(datagram), datagram, now, v, e, want)
	}
}

// wantDrop asks a table to drop a datagram.
func wantDrop(t *testing.T, x *route.Table, addr int, datagram []byte, now int) {
	t.Helper()
	wantVerdict(t, x, addr, datagram, now, route.Verdict{})
}

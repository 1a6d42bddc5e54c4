package guard

import (
	"slices"

	"turnpike/api"
	"turnpike/header"
	"turnpike/prim"
)

const (
	widest     = 4                    // bytes of a number; the sample begins where a number of so many would end
	sampleSize = 16                   // bytes that a mask is made of
	tagSize    = 16                   // bytes that sealing adds
	most       = api.MaxData - widest // bytes of a head: with a number behind it layer 7 still binds it
)

// Protect: the packet.
func Protect(k Keys, head []byte, number, width int, payload []byte) ([]byte, api.Errno) {
	if e := checkParts(k, head, number, width, payload); e != api.OK {
		return nil, e
	}
	at := len(head)
	bound := slices.Concat(head, lastBytes(number, width))
	sealed, _ := prim.Seal(k.Key, k.nonce(number), bound, payload) // checkParts has refused what layer 7 would
	packet := slices.Concat(bound, sealed)
	mask, _ := prim.Mask(k.Hp, packet[at+widest:])
	packet[0] ^= mask[0] & masked(packet[0])
	overlay(packet[at:at+width], mask[1:])
	return packet, api.OK
}

// checkParts: what Protect refuses.
func checkParts(k Keys, head []byte, number, width int, payload []byte) api.Errno {
	if e := k.check(); e != api.OK {
		return e
	}
	if len(head) == 0 || len(payload) < widest && width < widest-len(payload) {
		return api.ErrShort
	}
	if width < 1 || width > widest || number < 0 || number > api.MaxNum {
		return api.ErrNumber
	}
	if len(head) > most || len(payload) > most {
		return api.ErrHuge
	}
	return api.OK
}

// Unprotect: what a packet holds.
func Unprotect(k Keys, packet []byte, at, high int) (number int, payload []byte, first byte, e api.Errno) {
	if e := k.check(); e != api.OK {
		return 0, nil, 0, e
	}
	if e := checkPacket(packet, at, high); e != api.OK {
		return 0, nil, 0, e
	}
	b := unmask(k.Hp, packet, at, high)
	if payload, e = b.open(k); e != api.OK {
		return 0, nil, 0, e
	}
	return b.number, payload, b.first(), api.OK
}

// checkPacket: what is refused ahead of a look at the packet's bytes.
func checkPacket(packet []byte, at, high int) api.Errno {
	if at < 1 || len(packet)-at < widest+sampleSize {
		return api.ErrShort
	}
	if high < -1 || high > api.MaxNum {
		return api.ErrNumber
	}
	if at > most || len(packet)-at > api.MaxData+tagSize {
		return api.ErrHuge
	}
	return api.OK
}

// bare: a packet without its mask. It shares the sealed bytes with the packet, so no call keeps it.
type bare struct {
	bound  []byte // the head and the number's bytes
	number int
	sealed []byte
}

// unmask takes the mask off a packet that checkPacket has let pass.
func unmask(hp, packet []byte, at, high int) bare {
	mask, _ := prim.Mask(hp, packet[at+widest:])
	first := packet[0] ^ mask[0]&masked(packet[0])
	width := int(first&3) + 1
	bound := slices.Clone(packet[:at+width])
	bound[0] = first
	overlay(bound[at:], mask[1:])
	return bare{bound: bound, number: header.Expand(high, numberOf(bound[at:]), width), sealed: packet[at+width:]}
}

// first: the first byte.
func (b bare) first() byte {
	return b.bound[0]
}

// open: the payload. The reserved bits are asked only of what the tag has shown to be whole.
func (b bare) open(k Keys) ([]byte, api.Errno) {
	payload, e := prim.Open(k.Key, k.nonce(b.number), b.bound, b.sealed)
	if e != api.OK {
		return nil, e
	}
	if b.first()&reserved(b.first()) != 0 {
		return nil, api.ErrReserved
	}
	return payload, api.OK
}

// numberOf: the number that bytes are, the highest first.
func numberOf(b []byte) int {
	n := 0
	for _, x := range b {
		n = n<<8 | int(x)
	}
	return n
}

// masked: the bits of a first byte that lie under the mask. The bit that says long is none of them, so it can be read at any time.
func masked(first byte) byte {
	if long(first) {
		return 0x0f
	}
	return 0x1f
}

// reserved: the bits of a first byte that are to be clear.
func reserved(first byte) byte {
	if long(first) {
		return 0x0c
	}
	return 0x18
}

// long: whether the packet of a first byte is.
func long(first byte) bool {
	return first&0x80 != 0
}

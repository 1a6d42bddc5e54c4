package guard

import (
	"slices"

	"turnpike/api"
)

// phaseBit: the bit of a first byte that tells the packet's phase.
const phaseBit = 0x04

// Opener opens short packets, also when the keys change.
type Opener struct {
	hp      []byte // of the first secret: the phase must be readable ahead of knowing the secret
	present []byte
	former  []byte // none, till the keys have changed once
	phase   int
}

// NewOpener: an opener of the phase 0.
func NewOpener(secret []byte) (*Opener, api.Errno) {
	k, e := Make(secret)
	if e != api.OK {
		return nil, e
	}
	return &Opener{hp: k.Hp, present: slices.Clone(secret)}, api.OK
}

// Open: what a short packet holds.
func (o *Opener) Open(packet []byte, at, high int) (number int, payload []byte, e api.Errno) {
	if e := checkPacket(packet, at, high); e != api.OK {
		return 0, nil, e
	}
	b := unmask(o.hp, packet, at, high)
	if b.phase() == o.phase {
		payload, e = b.openBy(o.present)
	} else {
		payload, e = o.openOther(b)
	}
	if e != api.OK {
		return 0, nil, e
	}
	return b.number, payload, api.OK
}

// openOther: the payload of a packet that is not of the opener's phase: the first one of the next phase, or a late one of the former.
func (o *Opener) openOther(b bare) ([]byte, api.Errno) {
	next, _ := Next(o.present)
	payload, e := b.openBy(next)
	if e == api.OK {
		o.present, o.former, o.phase = next, o.present, b.phase()
	}
	if e == api.ErrTag && o.former != nil {
		return b.openBy(o.former)
	}
	return payload, e
}

// openBy: the payload, by the keys of a secret.
func (b bare) openBy(secret []byte) ([]byte, api.Errno) {
	k, _ := Make(secret)
	return b.open(k)
}

// phase: the packet's.
func (b bare) phase() int {
	if b.first()&phaseBit != 0 {
		return 1
	}
	return 0
}

// Phase: the phase.
func (o *Opener) Phase() int {
	return o.phase
}

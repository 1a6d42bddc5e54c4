package route

import (
	"slices"

	"turnpike/api"
	"turnpike/header"
	"turnpike/prim"
)

const (
	latest     = 1 << 40 // the last of all times
	tokenLife  = 10000   // ticks that a retry's token proves an address
	wholeLeast = 1200    // bytes of a datagram that a connection may begin with
	firstLeast = 8       // bytes of a Dst that a client made up
	junkSize   = 26
	resetLeast = 43 // bytes of a datagram that a reset answers, which has one less: so resets do not answer each other for ever
)

// The first bytes of answers.
const (
	negotiateFirst = 0x80
	retryFirst     = 0xf0
)

// The versions that answers tell.
const (
	versionNone = 0
	versionOurs = 1
	versionSize = 4
)

// Look: what becomes of a datagram.
func (t *Table) Look(addr int, datagram []byte, now int) (Verdict, api.Errno) {
	if !within(addr, addrMost) {
		return Verdict{}, api.ErrAddr
	}
	h, _, _, e := header.Parse(datagram, idSize)
	if e != api.OK {
		return Verdict{Kind: Drop}, api.OK
	}
	if conn, there := t.ids[string(h.Dst)]; there {
		return Verdict{Kind: To, Conn: conn}, api.OK
	}
	return t.stray(h, addr, datagram, min(max(now, 0), latest)), api.OK
}

// stray: what becomes of a datagram that leads to no connection.
func (t *Table) stray(h header.Header, addr int, datagram []byte, now int) Verdict {
	whole := len(datagram) >= wholeLeast
	switch {
	case h.Kind == header.Short && len(datagram) >= resetLeast:
		return answer(t.reset(h.Dst, datagram))
	case h.Kind == header.Other && whole:
		return answer(versions(h))
	case h.Kind == header.Initial && whole && len(h.Dst) >= firstLeast:
		return t.beginning(h, addr, now)
	}
	return Verdict{Kind: Drop}
}

// beginning: what becomes of a client's first packet.
func (t *Table) beginning(h header.Header, addr, now int) Verdict {
	if t.config.Retry && len(h.Token) == 0 {
		return answer(t.retry(h, addr, now))
	}
	if t.config.Retry && !t.proves(h, addr, now) {
		return Verdict{Kind: Drop}
	}
	return Verdict{Kind: Begin, First: h.Dst, Peer: h.Src}
}

// proves: whether a packet has the token of a retry that told its Dst to this address.
func (t *Table) proves(h header.Header, addr, now int) bool {
	id, e := Proof(t.config.Secret, addr, now, h.Token)
	return e == api.OK && slices.Equal(id, h.Dst)
}

// answer: the verdict that bytes go back.
func answer(reply []byte) Verdict {
	return Verdict{Kind: Answer, Reply: reply}
}

// reset: the answer to a packet of a connection that is not known any more. It looks like any short packet to all but the one who knows the token.
func (t *Table) reset(dst, datagram []byte) []byte {
	junk, _ := prim.Expand(digest(datagram), "junk", junkSize) // refuses nothing of these sizes
	junk[0] = junk[0]&0x3f | 0x40
	token, _ := Reset(t.config.Secret, dst) // nor does this: a short Dst has eight bytes
	return slices.Concat(junk, token)
}

// versions: the answer to a packet of another version.
func versions(h header.Header) []byte {
	return slices.Concat(longHead(negotiateFirst, versionNone, h.Src, h.Dst), laid(versionOurs, versionSize))
}

// retry: the answer to a packet that is to come again with a proof of its address.
func (t *Table) retry(h header.Header, addr, now int) []byte {
	id := t.Next()
	token, _ := Token(t.config.Secret, addr, now+tokenLife, id) // refuses nothing: Look has seen to addr and now
	told := slices.Concat(longHead(retryFirst, versionOurs, h.Src, id), token)
	return slices.Concat(told, digest([]byte("retry"), sized(h.Dst), told))
}

// longHead: a long header up to its Src.
func longHead(first byte, version uint64, dst, src []byte) []byte {
	return slices.Concat([]byte{first}, laid(version, versionSize), sized(dst), sized(src))
}

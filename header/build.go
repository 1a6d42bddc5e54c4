package header

import (
	"slices"

	"turnpike/api"
	"turnpike/varint"
)

// Build: the header's bytes.
func Build(h Header, width int) ([]byte, api.Errno) {
	if e := check(h, width); e != api.OK {
		return nil, e
	}
	if h.Kind == Short {
		return slices.Concat([]byte{firstByte(h.Kind, width)}, h.Dst), api.OK
	}
	b := []byte{firstByte(h.Kind, width), 0, 0, 0, versionOurs}
	b = slices.Concat(b, withSize(h.Dst), withSize(h.Src))
	if h.Kind == Initial {
		b = slices.Concat(b, shortest(len(h.Token)), h.Token)
	}
	return slices.Concat(b, lengthForm(h.Length)), api.OK
}

// check: what Build can't write, in the order of its promise.
func check(h Header, width int) api.Errno {
	long := h.Kind != Short
	switch {
	case h.Kind != Initial && h.Kind != Early && h.Kind != Handshake && long:
		return api.ErrKind
	case width < 1 || width > 4:
		return api.ErrNumber
	case len(h.Dst) > api.MaxCid || long && len(h.Src) > api.MaxCid:
		return api.ErrCid
	case h.Kind == Initial && len(h.Token) > api.MaxData:
		return api.ErrHuge
	case long && (h.Length < 1 || h.Length > api.MaxData):
		return api.ErrLength
	}
	return api.OK
}

// firstByte: the first byte of a header whose packet number has width bytes.
func firstByte(kind, width int) byte {
	first := bitFixed | (width - 1)
	if kind != Short {
		first |= bitLong | (kind-Initial)<<kindShift
	}
	return byte(first)
}

// withSize: an id behind the number of its bytes.
func withSize(id []byte) []byte {
	return slices.Concat([]byte{byte(len(id))}, id)
}

// lengthForm: Length in two bytes where they hold it, so that its size is known ahead of the payload's.
func lengthForm(n int) []byte {
	if n < 1<<6 {
		return []byte{0x40, byte(n)}
	}
	return shortest(n)
}

// shortest: the shortest form of a number that has one.
func shortest(n int) []byte {
	form, _ := varint.Put(n) // a length is never below 0 nor above MaxNum
	return form
}

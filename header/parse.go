package header

import (
	"turnpike/api"
	"turnpike/varint"
)

// Parse: the header at the beginning.
func Parse(b []byte, cid int) (h Header, at, end int, e api.Errno) {
	p, e := open(b, cid).packet()
	return p.Header, p.At, p.End, e
}

// Split: the packets of a datagram.
func Split(b []byte, cid int) (list []Piece, e api.Errno) {
	if len(b) > api.MaxData {
		return nil, api.ErrHuge
	}
	if len(b) == 0 {
		return nil, api.ErrShort
	}
	r := open(b, cid)
	for r.reader.Left() > 0 {
		p, fault := r.packet()
		if fault != api.OK && len(list) == 0 {
			return nil, fault
		}
		if fault != api.OK {
			break // what can't be read does no harm to the packets ahead of it
		}
		list = append(list, p)
		r.reader.Bytes(p.End - p.At)
	}
	return list, api.OK
}

// reading goes through a datagram; what it can't go on from it panics with, as an api.Errno.
type reading struct {
	reader *varint.Reader
	cid    int // how many bytes a short header's Dst has
}

// open: a reading at the beginning of b.
func open(b []byte, cid int) *reading {
	return &reading{reader: varint.Open(b), cid: cid}
}

// packet: the packet that begins here, with the places counted from the datagram's beginning; the reading stands behind its header then.
func (r *reading) packet() (p Piece, e api.Errno) {
	defer func() {
		if why := recover(); why != nil {
			e = why.(api.Errno) // panics anew at anything else: a fault of the program is not to be hidden
		}
	}()
	from := r.reader.At()
	h := r.header()
	at := r.reader.At()
	return Piece{Header: h, From: from, At: at, End: at + r.behind(h)}, api.OK
}

// behind: how many bytes of the packet stand behind its header.
func (r *reading) behind(h Header) int {
	switch h.Kind {
	case Initial, Early, Handshake:
		return h.Length
	}
	return r.reader.Left()
}

// header: the header that begins here.
func (r *reading) header() Header {
	refuseIf(r.cid < 0 || r.cid > api.MaxCid, api.ErrCid)
	first := r.one()
	if first&bitLong != 0 {
		return r.long(first)
	}
	refuseIf(first&bitFixed == 0, api.ErrFixed)
	h := Header{Kind: Short, Dst: r.some(r.cid)}
	h.Length = r.reader.Left()
	return h
}

// long: a long header behind its first byte.
func (r *reading) long(first int) Header {
	h := Header{Version: r.version(), Dst: r.id(), Src: r.id()}
	switch h.Version {
	case versionNone:
		h.Kind = Negotiate
		h.Versions = r.versions()
	case versionOurs:
		refuseIf(first&bitFixed == 0, api.ErrFixed)
		h.Kind = Initial + first&bitsKind>>kindShift
		r.fill(&h)
	default:
		h.Kind = Other
	}
	return h
}

// fill reads what stands behind Src in a header of the version 1.
func (r *reading) fill(h *Header) {
	if h.Kind == Retry {
		refuseIf(r.reader.Left() < retrySize, api.ErrShort)
		h.Token = r.some(r.reader.Left() - retrySize)
		return
	}
	if h.Kind == Initial {
		h.Token = r.some(r.number())
	}
	h.Length = r.number()
	refuseIf(h.Length == 0 || h.Length > r.reader.Left(), api.ErrLength)
}

// versions: the versions of a Negotiate, to the end of the datagram.
func (r *reading) versions() []int {
	left := r.reader.Left()
	refuseIf(left == 0 || left%versionSize != 0, api.ErrLength)
	list := make([]int, left/versionSize)
	for i := range list {
		list[i] = r.version()
	}
	return list
}

// version: a version, four bytes.
func (r *reading) version() int {
	n := 0
	for _, b := range r.some(versionSize) {
		n = n<<8 | int(b)
	}
	return n
}

// id: Dst or Src of a long header, whose length is refused ahead of what is missing behind it.
func (r *reading) id() []byte {
	size := r.one()
	refuseIf(size > api.MaxCid, api.ErrCid)
	return r.some(size)
}

// number: the next item, a number in any form.
func (r *reading) number() int {
	n := r.reader.Number()
	r.mustGoOn()
	return n
}

// one: the next item, one byte.
func (r *reading) one() int {
	n := r.reader.Byte()
	r.mustGoOn()
	return n
}

// some: the next item, n bytes.
func (r *reading) some(n int) []byte {
	data := r.reader.Bytes(n)
	r.mustGoOn()
	return data
}

// mustGoOn ends the reading, if what was asked for last is not there.
func (r *reading) mustGoOn() {
	e := r.reader.Fault()
	refuseIf(e != api.OK, e)
}

// refuseIf ends the reading with that error, if so.
func refuseIf(so bool, e api.Errno) {
	if so {
		panic(e)
	}
}

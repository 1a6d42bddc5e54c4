package frame

import (
	"turnpike/api"
	"turnpike/varint"
)

// What ends a reading ahead of the end of its bytes.
type (
	cut     struct{}                // the bytes end too early
	refused struct{ why api.Errno } // the bytes are there, but can't be read
)

// Decode: the frames of a payload.
func Decode(b []byte) (frames []Frame, at int, e api.Errno) {
	if len(b) > api.MaxData {
		return nil, 0, api.ErrHuge
	}
	if len(b) == 0 {
		return nil, 0, api.ErrShort
	}
	return readAll(b)
}

// readAll: all frames, or the place and the error of the first that can't be read.
func readAll(b []byte) (frames []Frame, at int, e api.Errno) {
	r := &reading{bytes: b, reader: varint.Open(b)}
	defer func() {
		switch end := recover().(type) {
		case nil:
			return
		case cut:
			e = api.ErrShort
		case refused:
			e = end.why
		default:
			panic(end) // no end of a reading: a fault of the program is not to be hidden
		}
		frames, at = nil, r.place
	}()
	for r.reader.Left() > 0 {
		frames = append(frames, r.frame())
	}
	return frames, 0, api.OK
}

// reading is a reader that panics with what ends the reading.
type reading struct {
	bytes  []byte
	reader *varint.Reader
	place  int // where the type of the frame stands that is read
}

// frame: the next frame, which must be right.
func (r *reading) frame() Frame {
	r.place = r.reader.At()
	f := r.items(r.kind())
	if Check(f) != api.OK {
		panic(refused{api.ErrField})
	}
	return f
}

// kind: the type of a frame.
func (r *reading) kind() int {
	kind := r.number()
	if r.reader.At()-r.place != varint.Size(kind) {
		panic(refused{api.ErrForm})
	}
	if kind > handshakeDone {
		panic(refused{api.ErrKind})
	}
	return kind
}

// items: a frame of that type, from the items that follow.
func (r *reading) items(kind int) Frame {
	switch {
	case kind == padding:
		return Frame{Kind: padding, N: r.zeros()}
	case kind == ack || kind == ackMarks:
		return r.ack(kind)
	case kind&^streamBits == stream:
		return r.stream(kind)
	}
	f := Frame{Kind: kind}
	for _, n := range f.leading() {
		*n = r.number()
	}
	switch kind {
	case crypto, newToken, closeTransport, closeApplication:
		f.Data = r.some(r.number())
	case newID:
		f.Cid = r.some(r.one())
		f.Data = r.some(resetSize)
	case pathChallenge, pathResponse:
		f.Data = r.some(pathSize)
	}
	return f
}

// zeros: how many zero bytes stand in a row, from the type on.
func (r *reading) zeros() int {
	n := 1
	for r.place+n < len(r.bytes) && r.bytes[r.place+n] == 0 {
		n++
	}
	r.some(n - 1)
	return n
}

// stream: a stream frame, whose type says which items there are.
func (r *reading) stream(kind int) Frame {
	f := Frame{Kind: stream, Fin: kind&bitFin != 0, ID: r.number()}
	if kind&bitAt != 0 {
		f.At = r.number()
	}
	if kind&bitLen != 0 {
		f.Data = r.some(r.number())
	} else {
		f.Data = r.some(r.reader.Left())
	}
	return f
}

// ack: an ack, whose spans are refused as soon as they can't be, whatever is missing behind.
func (r *reading) ack(kind int) Frame {
	to := r.number()
	f := Frame{Kind: kind, Delay: r.number()}
	others := r.number()
	if others >= api.MaxSpans {
		panic(refused{api.ErrField})
	}
	f.Spans = make([]api.Span, others+1)
	f.Spans[others] = r.span(to)
	for i := others - 1; i >= 0; i-- {
		f.Spans[i] = r.span(r.down(f.Spans[i+1].From - 2))
	}
	if kind == ackMarks {
		f.Ecn = [3]int{r.number(), r.number(), r.number()}
	}
	return f
}

// span: a span that ends at to and whose length is told next.
func (r *reading) span(to int) api.Span {
	return api.Span{From: r.down(to), To: to}
}

// down: the number that is so far below from as is told next; there is none below 0.
func (r *reading) down(from int) int {
	n := from - r.number()
	if n < 0 {
		panic(refused{api.ErrField})
	}
	return n
}

// number: the next item, a number in any form.
func (r *reading) number() int {
	n := r.reader.Number()
	r.mustGoOn()
	return n
}

// one: the next item, one byte.
func (r *reading) one() int {
	n := r.reader.Byte()
	r.mustGoOn()
	return n
}

// some: the next item, n bytes.
func (r *reading) some(n int) []byte {
	data := r.reader.Bytes(n)
	r.mustGoOn()
	return data
}

// mustGoOn ends the reading, if what was asked for last is not there.
func (r *reading) mustGoOn() {
	if r.reader.Fault() != api.OK {
		panic(cut{})
	}
}

package hone

import (
	"bytes"
	"strings"

	"turnpike/api"
)

// What stands behind a line, and behind the last line of a head or of trailers.
const (
	lineEnd = "\r\n"
	lastEnd = lineEnd + lineEnd
)

// The bounds of a chunk's line.
const (
	mostDigits = 8
	mostLine   = mostDigits + len(lineEnd)
)

// firstFinal: the least status of a head that no other one follows.
const firstFinal = 200

// reading reads on, as far as to the next event: an event, or none, if more must come, or what is wrong.
type reading func(r *Reader) (Event, bool, api.Errno)

// then goes on with another reading at once.
func (r *Reader) then(next reading) (Event, bool, api.Errno) {
	r.next = next
	return next(r)
}

// wait: there is no event, and more bytes must come for one.
func (r *Reader) wait() (Event, bool, api.Errno) {
	if r.over {
		return Event{}, false, api.ErrEarly
	}
	return Event{}, false, api.OK
}

// refuse: there is no event, and never will be.
func refuse(e api.Errno) (Event, bool, api.Errno) {
	return Event{}, false, e
}

// first: the next bytes, n of them or as many as are there, in the reader's own memory.
func (r *Reader) first(n int) []byte {
	return r.held[:min(n, len(r.held))]
}

// pass goes behind the next n bytes.
func (r *Reader) pass(n int) {
	r.held, r.searched = r.held[n:], 0
}

// takeData tells the next bytes, n of them or as many as are there, or waits for one.
func (r *Reader) takeData(n int) (Event, bool, api.Errno) {
	data := bytes.Clone(r.first(n))
	if len(data) == 0 {
		return r.wait()
	}
	r.pass(len(data))
	return Event{Kind: Data, Data: data}, true, api.OK
}

// takeLines takes what stands ahead of the next empty line, and that line. If it isn't there whole, ok is false.
func (r *Reader) takeLines() (lines string, ok bool, e api.Errno) {
	inside := r.first(r.limit)
	from := max(0, r.searched-len(lastEnd)+1) // an end may have begun to come
	if at := bytes.Index(inside[from:], []byte(lastEnd)); at >= 0 {
		lines = string(inside[:from+at])
		r.pass(len(lines) + len(lastEnd))
		return lines, true, api.OK
	}
	r.searched = len(inside)
	if len(r.held) > r.limit {
		return "", false, api.ErrLarge
	}
	_, _, e = r.wait()
	return "", false, e
}

// readHead reads the response's head, and passes over those that only say that it is under way.
func (r *Reader) readHead() (Event, bool, api.Errno) {
	for {
		lines, ok, e := r.takeLines()
		if !ok {
			return refuse(e)
		}
		h, e := headOf(lines)
		if e != api.OK {
			return refuse(e)
		}
		if h.status >= firstFinal {
			return r.begin(h)
		}
	}
}

// begin tells the head, and says how the body is to be read.
func (r *Reader) begin(h head) (Event, bool, api.Errno) {
	r.current, r.closes = h.current, closes(h.fields)
	ev := Event{Kind: Head, Status: h.status, Fields: h.fields}
	switch {
	case r.head || h.status == 204 || h.status == 304:
		ev.Framing, r.next = None, (*Reader).finish
	case h.chunked:
		ev.Framing, r.next = Chunked, (*Reader).readChunkLine
	case h.length != noLength:
		ev.Framing, r.next = Length, counted(h.length, (*Reader).finish)
	default:
		ev.Framing, r.next = Close, (*Reader).readToEnd
	}
	return ev, true, api.OK
}

// counted reads so many bytes of the body, and goes on with what is behind them.
func counted(missing int, behind reading) reading {
	return func(r *Reader) (Event, bool, api.Errno) {
		if missing == 0 {
			return r.then(behind)
		}
		ev, ok, e := r.takeData(missing)
		missing -= len(ev.Data)
		return ev, ok, e
	}
}

// readToEnd reads a body that goes on until End is told.
func (r *Reader) readToEnd() (Event, bool, api.Errno) {
	if r.over && len(r.held) == 0 {
		return r.finish()
	}
	return r.takeData(len(r.held))
}

// readChunkLine reads how many bytes the next chunk has.
func (r *Reader) readChunkLine() (Event, bool, api.Errno) {
	line, _, whole := strings.Cut(string(r.first(mostLine)), lineEnd)
	if !whole && len(line) < mostLine {
		return r.wait()
	}
	size, ok := number(line, 16, mostDigits)
	if !ok {
		return refuse(api.ErrChunk)
	}
	r.pass(len(line) + len(lineEnd))
	if size == 0 {
		return r.then((*Reader).readTrailers)
	}
	return r.then(counted(size, (*Reader).readChunkEnd))
}

// readChunkEnd reads what stands behind a chunk's bytes.
func (r *Reader) readChunkEnd() (Event, bool, api.Errno) {
	there := string(r.first(len(lineEnd)))
	if there == lineEnd {
		r.pass(len(lineEnd))
		return r.then((*Reader).readChunkLine)
	}
	if !strings.HasPrefix(lineEnd, there) {
		return refuse(api.ErrChunk)
	}
	return r.wait()
}

// readTrailers reads what stands behind the last chunk's line.
func (r *Reader) readTrailers() (Event, bool, api.Errno) {
	if string(r.first(len(lineEnd))) == lineEnd {
		r.pass(len(lineEnd))
		return r.finish()
	}
	lines, ok, e := r.takeLines()
	if !ok {
		return refuse(e)
	}
	trailers, e := trailersOf(lines)
	if e != api.OK {
		return refuse(e)
	}
	return r.end(trailers)
}

// finish tells the End of a response without trailers.
func (r *Reader) finish() (Event, bool, api.Errno) {
	return r.end(nil)
}

// end tells the End.
func (r *Reader) end(trailers []api.Field) (Event, bool, api.Errno) {
	r.done = true
	r.closes = r.closes || closes(trailers)
	return Event{Kind: End, Fields: trailers}, true, api.OK
}

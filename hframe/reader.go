package hframe

import (
	"slices"

	"turnpike/api"
	"turnpike/varint"
)

// Reader reads a stream.
type Reader struct {
	stream int    // its kind
	limit  int    // of a headers frame's payload
	held   []byte // what has come and is not read yet
	ended  bool
	begun  int // so many frames of the type that opens the stream have begun: headers, or settings
	inside bool
	frame  int // the type of the frame that the reader is inside of
	left   int // so much of its payload is not read yet
	done   bool
	fault  api.Errno
}

// New: a reader.
func New(kind, limit int) (*Reader, api.Errno) {
	if kind != request && kind != control {
		return nil, api.ErrKind
	}
	if limit < 0 || limit > mostLimit {
		return nil, api.ErrRange
	}
	return &Reader{stream: kind, limit: limit}, api.OK
}

// Feed: the next bytes.
func (r *Reader) Feed(b []byte) api.Errno {
	if r.ended {
		return api.ErrDone
	}
	if r.fault == api.OK { // behind a fault nothing is read any more
		r.held = append(r.held, b...)
	}
	return api.OK
}

// End: there are no more.
func (r *Reader) End() api.Errno {
	if r.ended {
		return api.ErrDone
	}
	r.ended = true
	return api.OK
}

// Next: the next event.
func (r *Reader) Next() (ev Event, ok bool, e api.Errno) {
	for r.fault == api.OK && r.comes() {
		if ev, ok = r.take(); ok {
			return ev, true, api.OK
		}
	}
	if r.fault == api.OK && r.ended {
		r.finish()
	}
	if r.fault != api.OK {
		r.held = nil
	}
	return Event{}, false, r.fault
}

// Done: has all been read?
func (r *Reader) Done() bool { return r.done }

// comes: whether the reader is inside of a frame, of whose payload as much is there as is read at one time.
func (r *Reader) comes() bool {
	if !r.inside && !r.enter() {
		return false
	}
	if _, bounded := r.bound(r.frame); bounded {
		return len(r.held) >= r.left
	}
	return len(r.held) >= min(r.left, 1)
}

// enter goes into the next frame, if its type and its length are there and nothing is wrong with them.
func (r *Reader) enter() bool {
	frame, at, e := varint.Get(r.held, 0)
	if e != api.OK {
		return false
	}
	length, at, e := varint.Get(r.held, at)
	if e != api.OK {
		return false
	}
	r.fault = r.refusal(frame, length)
	if r.fault != api.OK {
		return false
	}
	r.pass(at)
	r.frame, r.left, r.inside = frame, length, true
	if frame == headersFrame || frame == settingsFrame {
		r.begun++
	}
	return true
}

// refusal: what is wrong with a frame of this type and length here.
func (r *Reader) refusal(frame, length int) api.Errno {
	if r.stream == control && r.begun == 0 && frame != settingsFrame {
		return api.ErrSettings
	}
	if !r.mayCome(frame) {
		return api.ErrUnexpected
	}
	if most, bounded := r.bound(frame); bounded && length > most {
		return api.ErrLarge
	}
	return api.OK
}

// mayCome: whether a frame of this type may be here.
func (r *Reader) mayCome(frame int) bool {
	switch frame {
	case dataFrame:
		return r.stream == request && r.begun == 1
	case headersFrame:
		return r.stream == request && r.begun < 2
	case settingsFrame:
		return r.stream == control && r.begun == 0
	case goawayFrame, maxPushFrame:
		return r.stream == control && r.begun == 1
	case 2, 3, 5, 6, 8, 9:
		return false
	}
	return true
}

// bound: how long the payload of a frame may be, if it is bounded. Those that are, and they alone, are read as a whole.
func (r *Reader) bound(frame int) (most int, bounded bool) {
	switch frame {
	case headersFrame:
		return r.limit, true
	case settingsFrame, goawayFrame, maxPushFrame:
		return mostControl, true
	}
	return 0, false
}

// take reads what is there of the frame's payload, and tells the event that it makes, if it makes one.
func (r *Reader) take() (ev Event, ok bool) {
	payload := r.pass(min(r.left, len(r.held)))
	r.left -= len(payload)
	r.inside = r.left > 0
	switch r.frame {
	case dataFrame:
		return Event{Kind: Data, Data: slices.Clone(payload)}, len(payload) > 0
	case headersFrame:
		return Event{Kind: Headers, Data: slices.Clone(payload)}, true
	case settingsFrame:
		ev.Kind = Settled
		ev.Settings, r.fault = settingsOf(payload)
		return ev, r.fault == api.OK
	case goawayFrame, maxPushFrame:
		ev.Kind = Goaway
		ev.ID, r.fault = numberOf(payload)
		return ev, r.fault == api.OK && r.frame == goawayFrame
	}
	return Event{}, false
}

// pass goes behind the next n bytes and answers them in the reader's own memory, so they are not for callers outside.
func (r *Reader) pass(n int) []byte {
	b := r.held[:n]
	r.held = r.held[n:]
	if len(r.held) == 0 {
		r.held = nil // else the memory of what was read would stay
	}
	return b
}

// finish: there is no event any more, nor will bytes come that make one.
func (r *Reader) finish() {
	switch {
	case r.inside || len(r.held) > 0:
		r.fault = api.ErrShort
	case r.stream == control:
		r.fault = api.ErrCritical
	case r.begun == 0:
		r.fault = api.ErrMissing
	default:
		r.done = true
	}
}

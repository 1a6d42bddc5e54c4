package hframe_test

import (
	"encoding/binary"
	"slices"

	"turnpike/api"
	"turnpike/hframe"
)

// model is a stream by the chapter's words: at each question it reads all that has come from the beginning on.
type model struct {
	kind, limit int
	all         []byte
	over        bool
	told        int // so many events have been told whole
	piece       int // and so many bytes of the one behind them, which is data
	done        bool
}

// feed and end.
func (m *model) feed(b []byte) api.Errno {
	if m.over {
		return api.ErrDone
	}
	m.all = append(m.all, b...)
	return api.OK
}

func (m *model) end() api.Errno {
	if m.over {
		return api.ErrDone
	}
	m.over = true
	return api.OK
}

// next: what Next is to answer.
func (m *model) next() (hframe.Event, bool, api.Errno) {
	events, e := m.read()
	for ; m.told < len(events); m.told, m.piece = m.told+1, 0 {
		ev := events[m.told]
		if ev.Kind != hframe.Data {
			m.told++
			return ev, true, api.OK
		}
		if rest := ev.Data[m.piece:]; len(rest) > 0 {
			m.piece = len(ev.Data)
			return data(string(rest)), true, api.OK
		}
		if m.told == len(events)-1 {
			break // it may grow
		}
	}
	m.done = m.kind == request && m.over && e == api.OK
	return hframe.Event{}, false, e
}

// numberAt: the number at a place and the place behind it, or that it is not there whole.
func numberAt(b []byte, at int) (n, behind int, ok bool) {
	if at >= len(b) {
		return 0, 0, false
	}
	size := []int{1, 2, 4, 8}[b[at]/64]
	if len(b)-at < size {
		return 0, 0, false
	}
	wide := make([]byte, 8)
	copy(wide[8-size:], b[at:at+size])
	wide[8-size] %= 64
	return int(binary.BigEndian.Uint64(wide)), at + size, true
}

// read: the events of all that has come, one of each data frame that has bytes, and the error behind them.
func (m *model) read() (events []hframe.Event, e api.Errno) {
	var had []int // the known types that have been there
	at := 0
	for at < len(m.all) {
		kind, behind, ok := numberAt(m.all, at)
		if !ok {
			return events, m.short()
		}
		length, behind, ok := numberAt(m.all, behind)
		if !ok {
			return events, m.short()
		}
		if e := m.refuses(had, kind, length); e != api.OK {
			return events, e
		}
		rest := m.all[behind:]
		whole := length <= len(rest)
		rest = rest[:min(length, len(rest))]
		if kind == 0 && len(rest) > 0 {
			events = append(events, data(string(rest)))
		}
		if !whole {
			return events, m.short()
		}
		ev, e := event(kind, rest)
		if e != api.OK {
			return events, e
		}
		if ev.Kind != 0 {
			events = append(events, ev)
		}
		if slices.Contains(known, kind) {
			had = append(had, kind)
		}
		at = behind + length
	}
	return events, m.ended(had)
}

// short: of a frame that is not there whole.
func (m *model) short() api.Errno {
	if m.over {
		return api.ErrShort
	}
	return api.OK
}

// ended: of a stream behind its last frame.
func (m *model) ended(had []int) api.Errno {
	if !m.over {
		return api.OK
	}
	if m.kind == control {
		return api.ErrCritical
	}
	if !slices.Contains(had, 1) {
		return api.ErrMissing
	}
	return api.OK
}

// refuses: what is wrong with a frame behind those that have been there.
func (m *model) refuses(had []int, kind, length int) api.Errno {
	if m.kind == control && len(had) == 0 && kind != 4 {
		return api.ErrSettings
	}
	if slices.Contains(barred, kind) {
		return api.ErrUnexpected
	}
	if !slices.Contains(known, kind) {
		return api.OK
	}
	had = append(slices.Clone(had), kind)
	if m.kind == control && (had[0] != 4 || slices.Contains(had[1:], 4) || slices.Contains(had, 0) || slices.Contains(had, 1)) {
		return api.ErrUnexpected
	}
	if m.kind == request && !isMessage(had) {
		return api.ErrUnexpected
	}
	if kind == 1 && length > m.limit || kind > 1 && length > 1024 {
		return api.ErrLarge
	}
	return api.OK
}

// isMessage: whether the types are those of a request stream: headers, data, and maybe headers once more at the end.
func isMessage(had []int) bool {
	for i, kind := range had {
		switch {
		case kind != 0 && kind != 1:
			return false
		case i == 0 && kind != 1:
			return false
		case i > 0 && i < len(had)-1 && kind == 1:
			return false
		}
	}
	return true
}

// event: what a whole frame tells that is not data.
func event(kind int, payload []byte) (hframe.Event, api.Errno) {
	switch kind {
	case 1:
		return headers(string(payload)), api.OK
	case 4:
		return settledBy(payload)
	case 7, 13:
		id, behind, ok := numberAt(payload, 0)
		if !ok || behind != len(payload) {
			return hframe.Event{}, api.ErrLength
		}
		if kind == 7 {
			return goaway(id), api.OK
		}
	}
	return hframe.Event{}, api.OK
}

// settledBy: the event of a settings payload.
func settledBy(payload []byte) (hframe.Event, api.Errno) {
	var numbers []int
	for at := 0; at < len(payload); {
		n, behind, ok := numberAt(payload, at)
		if !ok {
			return hframe.Event{}, api.ErrLength
		}
		numbers, at = append(numbers, n), behind
	}
	if len(numbers)%2 == 1 {
		return hframe.Event{}, api.ErrLength
	}
	ev := settled(0, 0, -1)
	var ids []int
	for i := 0; i < len(numbers); i += 2 {
		id, value := numbers[i], numbers[i+1]
		if slices.Contains(ids, id) {
			return hframe.Event{}, api.ErrSettings
		}
		ids = append(ids, id)
		switch id {
		case 1:
			ev.Settings.Capacity = value
		case 7:
			ev.Settings.Blocked = value
		case 6:
			ev.Settings.Limit = value
		case 2, 3, 4, 5:
			return hframe.Event{}, api.ErrSettings
		}
	}
	return ev, api.OK
}

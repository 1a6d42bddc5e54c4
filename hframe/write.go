package hframe

import (
	"slices"

	"turnpike/api"
	"turnpike/varint"
)

// Frame: a frame.
func Frame(kind int, payload []byte) ([]byte, api.Errno) {
	head, e := numbers(kind, len(payload))
	if e != api.OK {
		return nil, e
	}
	if len(payload) > mostPayload {
		return nil, api.ErrHuge
	}
	return slices.Concat(head, payload), api.OK
}

// PutSettings: a settings frame.
func PutSettings(s Settings) ([]byte, api.Errno) {
	var list []int
	if s.Capacity != 0 {
		list = append(list, capacityID, s.Capacity)
	}
	if s.Blocked != 0 {
		list = append(list, blockedID, s.Blocked)
	}
	if s.Limit != noLimit {
		list = append(list, limitID, s.Limit)
	}
	return frameOf(settingsFrame, list...)
}

// PutGoaway: a goaway frame.
func PutGoaway(id int) ([]byte, api.Errno) {
	return frameOf(goawayFrame, id)
}

// frameOf: a frame whose payload is some numbers.
func frameOf(kind int, list ...int) ([]byte, api.Errno) {
	payload, e := numbers(list...)
	if e != api.OK {
		return nil, e
	}
	return Frame(kind, payload)
}

// numbers: the shortest forms of some numbers, one behind the other.
func numbers(list ...int) ([]byte, api.Errno) {
	var b []byte
	for _, n := range list {
		form, e := varint.Put(n)
		if e != api.OK {
			return nil, e
		}
		b = append(b, form...)
	}
	return b, api.OK
}

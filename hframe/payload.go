package hframe

import (
	"turnpike/api"
	"turnpike/varint"
)

// settingsOf: what the payload of a settings frame settles.
func settingsOf(payload []byte) (Settings, api.Errno) {
	r := varint.Open(payload)
	values := map[int]int{} // by their ids
	refused := false
	for r.Left() > 0 {
		id, value := r.Number(), r.Number()
		_, twice := values[id]
		refused = refused || twice || isRefused(id)
		values[id] = value
	}
	// An id is told of only now, since a number that is not whole comes first, wherever it stands.
	if r.Fault() != api.OK {
		return Settings{}, api.ErrLength
	}
	if refused {
		return Settings{}, api.ErrSettings
	}
	limit, ok := values[limitID]
	if !ok {
		limit = noLimit
	}
	return Settings{Capacity: values[capacityID], Blocked: values[blockedID], Limit: limit}, api.OK
}

// isRefused: whether an id may not be among settings.
func isRefused(id int) bool {
	return id >= 2 && id <= 5
}

// numberOf: the one number that a payload is.
func numberOf(payload []byte) (int, api.Errno) {
	n, end, e := varint.Get(payload, 0)
	if e != api.OK || end != len(payload) {
		return 0, api.ErrLength
	}
	return n, api.OK
}

package frame

import (
	"turnpike/api"
	"turnpike/varint"
)

// Encode: the frame's bytes.
func Encode(f Frame) ([]byte, api.Errno) {
	if e := Check(f); e != api.OK {
		return nil, e
	}
	switch f.Kind {
	case padding:
		return make([]byte, f.N), api.OK
	case ack, ackMarks:
		return join(numbers(f.Kind), ackItems(f)), api.OK
	case stream:
		return join(streamHead(f), withLength(f.Data)), api.OK
	}
	return join(numbers(f.Kind), leadingItems(f), lastItems(f)), api.OK
}

// join: the pieces one behind the other, in new memory.
func join(pieces ...[]byte) []byte {
	var whole []byte
	for _, piece := range pieces {
		whole = append(whole, piece...)
	}
	return whole
}

// numbers: the shortest forms one behind the other.
func numbers(ns ...int) []byte {
	var forms []byte
	for _, n := range ns {
		form, _ := varint.Put(n) // Check has found that it is a number
		forms = append(forms, form...)
	}
	return forms
}

// withLength: bytes behind the number of them.
func withLength(data []byte) []byte {
	return join(numbers(len(data)), data)
}

// leadingItems: the items that leading names.
func leadingItems(f Frame) []byte {
	var items []byte
	for _, n := range f.leading() {
		items = join(items, numbers(*n))
	}
	return items
}

// lastItems: the items that are bytes, and how many they are.
func lastItems(f Frame) []byte {
	switch f.Kind {
	case crypto, newToken, closeTransport, closeApplication:
		return withLength(f.Data)
	case newID:
		return join([]byte{byte(len(f.Cid))}, f.Cid, f.Data)
	case pathChallenge, pathResponse:
		return f.Data
	}
	return nil
}

// streamHead: the type of a stream frame and its items ahead of the length.
func streamHead(f Frame) []byte {
	kind := stream | bitLen
	if f.Fin {
		kind |= bitFin
	}
	if f.At > 0 {
		return numbers(kind|bitAt, f.ID, f.At)
	}
	return numbers(kind, f.ID)
}

// ackItems: the items of an ack, which go from its last span down to its first.
func ackItems(f Frame) []byte {
	others := len(f.Spans) - 1
	told := f.Spans[others]
	items := []int{told.To, f.Delay, others, told.To - told.From}
	for i := others - 1; i >= 0; i-- {
		s := f.Spans[i]
		items = append(items, told.From-s.To-2, s.To-s.From)
		told = s
	}
	if f.Kind == ackMarks {
		items = append(items, f.Ecn[:]...)
	}
	return numbers(items...)
}

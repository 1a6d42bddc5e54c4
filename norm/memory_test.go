package norm_test

import (
	"bytes"
	"slices"
	"strings"
	"testing"

	"turnpike/api"
	"turnpike/norm"
)

// spoil writes over a list and its spare room.
func spoil[T any](list []T, with T) {
	list = list[:cap(list)]
	for i := range list {
		list[i] = with
	}
}

// spoilt: what lists of fields are written over with.
var spoilt = api.Field{Name: "spoilt", Value: "spoilt"}

// lent: a list with spare room, and the call that asks whether both are as they were and then writes over them.
func lent[T comparable](t *testing.T, list []T, with T) (given []T, back func()) {
	given = slices.Concat(list, slices.Repeat([]T{with}, 9))[:len(list)]
	was := slices.Clone(given[:cap(given)])
	var zero T
	return given, func() {
		t.Helper()
		if !slices.Equal(given[:cap(given)], was) {
			t.Errorf("%v was changed", list)
		}
		spoil(given, zero)
	}
}

// P19.6: a head keeps nothing of the request's fields, changes nothing of them, and is new memory each time.
func TestMemoryOfHead(t *testing.T) {
	r := asked("POST", 5)
	var told [][]byte
	for range 3 {
		var back func()
		r.Fields, back = lent(t, fields("cookie", "a", "te", "trailers", "x", "y", "cookie", "b", "expect", "z"), spoilt)
		b, e := norm.Head(r, true)
		back()
		for _, earlier := range told {
			spoil(earlier, 0)
		}
		if string(b) != "POST /x HTTP/1.1\r\nhost: a.b\r\ncookie: a; b\r\nx: y\r\ncontent-length: 5\r\nvia: 3 turnpike\r\n\r\n" || e != api.OK {
			t.Fatalf("%q, %d", b, e)
		}
		told = append(told, b)
	}
	given, back := lent(t, fields("a", "b"), spoilt)
	r.Method, r.Fields = "CONNECT", given
	norm.Head(r, true)
	norm.Framing(r, true)
	back()
}

// P19.6: a chunk keeps nothing of the data, changes nothing of it, and is new memory each time.
func TestMemoryOfChunk(t *testing.T) {
	for n, digits := range map[int]string{1: "1", 5: "5", 100: "64", api.MaxData: "4000"} {
		want := lines(digits, strings.Repeat("s", n))
		var told [][]byte
		for range 3 {
			data, back := lent(t, bytes.Repeat([]byte("s"), n), 't')
			b, e := norm.Chunk(data)
			back()
			for _, earlier := range told {
				spoil(earlier, 0)
			}
			if string(b) != want || e != api.OK {
				t.Fatalf("%d: %.200q, %d", n, b, e)
			}
			told = append(told, b)
		}
	}
	for _, n := range []int{0, api.MaxData + 1} {
		data, back := lent(t, make([]byte, n), 's')
		b, _ := norm.Chunk(data)
		spoil(b, 'b')
		back()
	}
}

// P19.6: the last chunk keeps nothing of the trailers, changes nothing of them, and is new memory each time.
func TestMemoryOfLast(t *testing.T) {
	var told [][]byte
	for _, want := range []string{"0\r\n\r\n", "0\r\na: b\r\nc: d\r\n\r\n", "0\r\n\r\n", "0\r\na: b\r\nc: d\r\n\r\n"} {
		trailers, back := lent(t, fields("a", "b", "c", "d")[:min(2, max(0, len(want)-7))], spoilt)
		b := norm.Last(trailers)
		back()
		for _, earlier := range told {
			spoil(earlier, 0)
		}
		if string(b) != want {
			t.Fatalf("%q, want %q", b, want)
		}
		told = append(told, b)
	}
}

// P19.6: a response keeps nothing of the fields, changes nothing of them, and is new memory each time.
func TestMemoryOfResponse(t *testing.T) {
	for _, c := range []struct{ given, want []api.Field }{
		{nil, nil},
		{fields("A", "b"), fields("a", "b")},
		{fields("a", "b", "c", "d", "e", "f"), fields("a", "b", "c", "d", "e", "f")},
		{fields("X", "1", "Connection", "x", "y", "2", "upgrade", "3"), fields("y", "2")},
	} {
		want := slices.Concat(fields(":status", "599"), c.want, fields("via", "1.1 turnpike"))
		var told [][]api.Field
		for range 3 {
			given, back := lent(t, c.given, spoilt)
			list, e := norm.Response(599, given)
			back()
			for _, earlier := range told {
				spoil(earlier, spoilt)
			}
			if !slices.Equal(list, want) || e != api.OK {
				t.Fatalf("%q, %d; want %q", list, e, want)
			}
			told = append(told, list)
		}
		given, back := lent(t, c.given, spoilt)
		norm.Response(99, given)
		back()
	}
}

// P19.6: a reply of the gateway's own is new memory each time, the body and the fields apart.
func TestMemoryOfLocal(t *testing.T) {
	for status, want := range replies {
		for range 3 {
			list, body, e := norm.Local(status)
			if len(list) != 3 || list[0].Value != statusText[status] || list[2].Value != want.length || string(body) != want.body || e != api.OK {
				t.Fatalf("%d: %q, %q, %d", status, list, body, e)
			}
			spoil(body, 's')
			spoil(list, spoilt)
		}
	}
}

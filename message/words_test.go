package message_test

import (
	"slices"
	"testing"

	"turnpike/api"
	"turnpike/message"
)

// fields: a list from names and values by turns.
func fields(texts ...string) []api.Field {
	var list []api.Field
	for pair := range slices.Chunk(texts, 2) {
		list = append(list, api.Field{Name: pair[0], Value: pair[1]})
	}
	return list
}

// get: a request that nothing is wrong with, and further fields.
func get(more ...string) []api.Field {
	return append(fields(":method", "GET", ":scheme", "https", ":authority", "a.b", ":path", "/x"), fields(more...)...)
}

// gotten: what such a request says.
func gotten(length int, more ...string) message.Request {
	return message.Request{Method: "GET", Scheme: "https", Authority: "a.b", Path: "/x", Fields: fields(more...), Length: length}
}

// with: a request with one pseudo field's value in place of the usual one.
func with(name, value string) []api.Field {
	list := get()
	for i := range list {
		if list[i].Name == name {
			list[i].Value = value
		}
	}
	return list
}

// without: a request without some of its fields.
func without(names ...string) []api.Field {
	return slices.DeleteFunc(get(), func(f api.Field) bool { return slices.Contains(names, f.Name) })
}

// sizeOf: the lengths of all names and values together.
func sizeOf(list []api.Field) int {
	n := 0
	for _, f := range list {
		n += len(f.Name + f.Value)
	}
	return n
}

// same: whether two requests are alike; no fields and nil are one.
func same(a, b message.Request) bool {
	return a.Method == b.Method && a.Scheme == b.Scheme && a.Authority == b.Authority && a.Path == b.Path && a.Length == b.Length && slices.Equal(a.Fields, b.Fields)
}

// limitsOf: limits that a list just reaches, and some that are wider.
func limitsOf(list []api.Field) []message.Limits {
	count, size := len(list), sizeOf(list)
	return []message.Limits{{Count: count, Size: size}, {Count: count + 1, Size: size + 1}, {Count: 1 << 62, Size: 1 << 62}}
}

// wantRequest asks for what a list says.
func wantRequest(t *testing.T, list []api.Field, want message.Request) {
	t.Helper()
	wantCheck(t, list, want, api.OK)
}

// wantError asks for what is malformed in a list, beside which the request is zero.
func wantError(t *testing.T, want api.Errno, list []api.Field) {
	t.Helper()
	wantCheck(t, list, message.Request{}, want)
}

// wantCheck asks Check at all limits that the list is within of.
func wantCheck(t *testing.T, list []api.Field, want message.Request, e api.Errno) {
	t.Helper()
	was := slices.Clone(list)
	for _, l := range limitsOf(list) {
		if r, got := message.Check(list, l); !same(r, want) || got != e || (e != api.OK && r.Fields != nil) {
			t.Fatalf("Check(%q, %v): %+v, %d; want %+v, %d", list, l, r, got, want, e)
		}
	}
	if !slices.Equal(list, was) {
		t.Fatalf("Check changed %q into %q", was, list)
	}
}

// wantTrailers asks Trailers at all limits that the list is within of.
func wantTrailers(t *testing.T, want api.Errno, list []api.Field) {
	t.Helper()
	was := slices.Clone(list)
	for _, l := range limitsOf(list) {
		if e := message.Trailers(list, l); e != want {
			t.Fatalf("Trailers(%q, %v): %d, want %d", list, l, e, want)
		}
	}
	if !slices.Equal(list, was) {
		t.Fatalf("Trailers changed %q into %q", was, list)
	}
}

// wantBoth asks Check about a request that a field follows, and Trailers about the field alone.
func wantBoth(t *testing.T, want api.Errno, name, value string) {
	t.Helper()
	if want == api.OK {
		wantRequest(t, get(name, value), gotten(-1, name, value))
	} else {
		wantError(t, want, get(name, value))
	}
	wantTrailers(t, want, fields(name, value))
}

// okIf: OK, if so, else the error.
func okIf(so bool, e api.Errno) api.Errno {
	if so {
		return api.OK
	}
	return e
}

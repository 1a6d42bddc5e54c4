package message_test

import (
	"slices"
	"testing"

	"turnpike/api"
)

// P18.1: no pseudo fields but the four.
func TestUnknownPseudoFields(t *testing.T) {
	for _, name := range []string{":", "::", ":status", ":Method", ":METHOD", ":metho", ":methods", ":method ", ": method", ":method:", "::method", ":protocol", ":host", ":te", ":\x00", ":ä", ":schem", ":pathe", ":authorit"} {
		for _, value := range []string{"", "GET", "\n"} {
			wantError(t, api.ErrPseudo, fields(name, value))
			wantError(t, api.ErrPseudo, slices.Insert(get(), 0, api.Field{Name: name, Value: value}))
			wantError(t, api.ErrPseudo, slices.Insert(get(), 2, api.Field{Name: name, Value: value}))
			wantError(t, api.ErrPseudo, get(name, value))
			wantTrailers(t, api.ErrPseudo, fields(name, value))
		}
	}
}

// P18.1: each of them once, with the same value or another.
func TestPseudoFieldsTwice(t *testing.T) {
	for i, f := range get() {
		for at := range 5 {
			for _, value := range []string{f.Value, "", "/y", "\n"} {
				twice := slices.Insert(get(), at, api.Field{Name: f.Name, Value: value})
				want := api.ErrPseudo
				if value == "\n" && at <= i {
					want = api.ErrValue // the first of both is wrong already
				}
				wantError(t, want, twice)
			}
		}
	}
	// Each of them is asked about on its own: the others may be missing.
	for _, f := range get() {
		wantError(t, api.ErrPseudo, []api.Field{f, f})
	}
}

// P18.1: pseudo fields stand ahead of all others, in any order.
func TestPseudoFieldsBehindOthers(t *testing.T) {
	for i, f := range get() {
		for _, other := range [][]api.Field{fields("accept", "x"), fields("host", "a.b"), fields("x", ""), fields("content-length", "5"), fields("a", "b", "c", "d")} {
			list := append(slices.Delete(get(), i, i+1), other...)
			wantError(t, api.ErrPseudo, append(list, f))
			wantError(t, api.ErrPseudo, slices.Concat(other, get()))
			wantError(t, api.ErrPseudo, append(get(), append(other, f)...))
			wantError(t, api.ErrPseudo, append(other, api.Field{Name: f.Name, Value: "\n"}))
		}
	}
	permute(get(), func(list []api.Field) {
		wantRequest(t, append(list, fields("a", "b")...), gotten(-1, "a", "b"))
	})
}

// permute calls with each order of a list.
func permute(list []api.Field, call func(list []api.Field)) {
	if len(list) == 0 {
		call(nil)
		return
	}
	for i := range list {
		rest := slices.Delete(slices.Clone(list), i, i+1)
		permute(rest, func(more []api.Field) { call(append([]api.Field{list[i]}, more...)) })
	}
}

// P18.5: trailers have no pseudo field at all, wherever it stands.
func TestPseudoFieldsInTrailers(t *testing.T) {
	for _, f := range get() {
		wantTrailers(t, api.ErrPseudo, []api.Field{f})
		wantTrailers(t, api.ErrPseudo, append(fields("a", "b"), f))
		wantTrailers(t, api.ErrPseudo, []api.Field{{Name: f.Name, Value: "\n"}})
	}
}

// P18.1, P18.5: of what is wrong with one field the first is told.
func TestWrongInOneField(t *testing.T) {
	wantError(t, api.ErrPseudo, get(":Path", "\n"))
	wantError(t, api.ErrPseudo, get(":", " "))
	wantBoth(t, api.ErrName, "Connection", "\n")
	wantBoth(t, api.ErrName, "", " ")
	wantBoth(t, api.ErrName, "Content-Length", "x")
	wantBoth(t, api.ErrName, "TE", " gzip")
	wantBoth(t, api.ErrValue, "connection", " close")
	wantBoth(t, api.ErrValue, "te", "gzip ")
	wantBoth(t, api.ErrValue, "te", " trailers")
	wantBoth(t, api.ErrValue, "content-length", " 5")
	wantBoth(t, api.ErrValue, "content-length", "\x00")
	wantError(t, api.ErrTotal, get("content-length", "close"))
	wantTrailers(t, api.ErrConnField, fields("content-length", "close"))
}

// P18.1, P18.5: of two fields with something wrong the first is told about, whatever it is.
func TestWrongInTwoFields(t *testing.T) {
	wrong := []struct {
		field    api.Field
		e, trail api.Errno
	}{
		{api.Field{Name: ":x", Value: "1"}, api.ErrPseudo, api.ErrPseudo},
		{api.Field{Name: "X", Value: "1"}, api.ErrName, api.ErrName},
		{api.Field{Name: "x", Value: "\n"}, api.ErrValue, api.ErrValue},
		{api.Field{Name: "upgrade", Value: "1"}, api.ErrConnField, api.ErrConnField},
		{api.Field{Name: "te", Value: "1"}, api.ErrConnField, api.ErrConnField},
		{api.Field{Name: "content-length", Value: "x"}, api.ErrTotal, api.ErrConnField},
	}
	for _, first := range wrong {
		for _, second := range wrong {
			both := []api.Field{first.field, second.field}
			apart := []api.Field{first.field, {Name: "a", Value: "b"}, second.field}
			for _, list := range [][]api.Field{both, apart, append(fields("a", "b"), both...)} {
				wantError(t, first.e, append(get(), list...))
				wantTrailers(t, first.trail, list)
			}
			// What is wrong with a field goes ahead of what is missing or wrong with the request.
			wantError(t, first.e, both)
			wantError(t, first.e, append(with(":method", "(")[:1], both...))
			wantError(t, first.e, append(with(":authority", "("), both...))
		}
	}
}

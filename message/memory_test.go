package message_test

import (
	"slices"
	"testing"

	"turnpike/api"
	"turnpike/message"
)

// spoil writes over fields and their spare room.
func spoil(list []api.Field) {
	list = list[:cap(list)]
	for i := range list {
		list[i] = api.Field{Name: "spoilt", Value: "spoilt"}
	}
}

// lent: a list with spare room, and the call that asks whether both are as they were and then writes over them.
func lent(t *testing.T, list []api.Field) (given []api.Field, back func()) {
	given = slices.Concat(list, slices.Repeat(fields("spare", "room"), 9))[:len(list)]
	was := slices.Clone(given[:cap(given)])
	return given, func() {
		t.Helper()
		if !slices.Equal(given[:cap(given)], was) {
			t.Errorf("%q was changed", list)
		}
		spoil(given)
	}
}

// P18.7: what is handed in is neither changed nor kept, and what is told is new memory each time.
func TestMemory(t *testing.T) {
	for _, c := range []struct {
		list []api.Field
		want message.Request
		e    api.Errno
	}{
		{get("a", "b", "host", "a.b", "c", "d"), gotten(-1, "a", "b", "c", "d"), api.OK},
		{get("a", "b", "c", "d"), gotten(-1, "a", "b", "c", "d"), api.OK},
		{append(without(":authority"), fields("a", "b", "host", "a.b")...), gotten(-1, "a", "b"), api.OK},
		{get(), gotten(-1), api.OK},
		{get("a", "b", "A", "c"), message.Request{}, api.ErrName},
		{get("a", "b", "host", "x"), message.Request{}, api.ErrPseudo},
	} {
		var told []message.Request
		for range 4 {
			list, back := lent(t, c.list)
			r, e := check(list)
			back()
			if !same(r, c.want) || e != c.e {
				t.Fatalf("Check(%q): %v, %d", c.list, r, e)
			}
			for _, earlier := range told {
				spoil(earlier.Fields)
			}
			if !same(r, c.want) {
				t.Fatalf("Check(%q): shares what was told before: %v", c.list, r)
			}
			told = append(told, r)
		}
	}
	for name, want := range map[string]api.Errno{"z": api.OK, "Z": api.ErrName} {
		list, back := lent(t, fields("x", "y", name, ""))
		if e := message.Trailers(list, message.Limits{Count: 2, Size: 9}); e != want {
			t.Errorf("Trailers of %s: %d, want %d", name, e, want)
		}
		back()
	}
	r, _ := check(get("a", "b", "content-length", "5"))
	was := r
	was.Fields = slices.Clone(r.Fields)
	message.Whole(r, 5)
	message.Whole(r, 6)
	if !same(r, was) {
		t.Errorf("Whole changed %v into %v", was, r)
	}
}

// P18.7: a request that was told can be handed in again piece by piece, and stays as it is.
func TestMemoryOfAnswers(t *testing.T) {
	list := get("a", "b", "c", "d")
	first, _ := check(list)
	second, _ := check(append(get(), first.Fields...))
	spoil(second.Fields)
	spoil(list)
	if !same(first, gotten(-1, "a", "b", "c", "d")) {
		t.Errorf("the first: %v", first)
	}
	third, _ := check(get("a", "b", "c", "d"))
	grown := append(third.Fields, fields("e", "f")...)
	spoil(grown)
	if again, _ := check(get("a", "b", "c", "d")); !same(again, first) {
		t.Errorf("again: %v", again)
	}
}

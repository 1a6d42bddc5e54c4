package hone_test

import (
	"bytes"
	"slices"
	"strings"
	"testing"

	"turnpike/api"
	"turnpike/hone"
)

// spoil writes over bytes and their spare room.
func spoil(b []byte) {
	b = b[:cap(b)]
	for i := range b {
		b[i] = 0x55
	}
}

// spoilEvent writes over what an event holds.
func spoilEvent(ev hone.Event) {
	spoil(ev.Data)
	list := ev.Fields[:cap(ev.Fields)]
	for i := range list {
		list[i] = api.Field{Name: "spoiled", Value: "spoiled"}
	}
}

// kept: an event that is the test's own.
func kept(ev hone.Event) hone.Event {
	ev.Data, ev.Fields = slices.Clone(ev.Data), slices.Clone(ev.Fields)
	return ev
}

// lent: bytes with spare room, and the call that asks whether both are as they were and then writes over them.
func lent(t *testing.T, s string) (given []byte, back func()) {
	given = slices.Concat([]byte(s), bytes.Repeat([]byte{0x99}, 20))[:len(s)]
	was := slices.Clone(given[:cap(given)])
	return given, func() {
		t.Helper()
		if !bytes.Equal(given[:cap(given)], was) {
			t.Errorf("%.40q was changed", s)
		}
		spoil(given)
	}
}

// P20.6: what is fed may be written over afterwards, at whatever places it is cut, and so may what is told.
func TestMemoryOfReaders(t *testing.T) {
	for _, l := range []life{
		{false, 500, ok("A: bc", "d: E") + "all", false, list(closed("a", "bc", "d", "E"), data("all")), api.OK},
		{false, 500, lines("HTTP/1.1 100 ", "") + ok("content-length: 4") + "allz", false, list(head(200, 1, "content-length", "4"), data("allz"), finish()), api.OK},
		{false, 500, chunked("3\r\nabc\r\n02\r\nde\r\n0\r\nX: y\r\nz: A\r\n\r\n"), false, list(inChunks(), data("abcde"), finish("x", "y", "z", "A")), api.OK},
	} {
		for at := range len(l.s) + 1 {
			for to := at; to <= len(l.s); to += 3 {
				r := made(t, l.head, l.limit)
				var events []hone.Event
				for _, piece := range []string{l.s[:at], l.s[at:to], l.s[to:]} {
					b, back := lent(t, piece)
					if e := r.Feed(b); e != api.OK {
						t.Fatalf("Feed: %d", e)
					}
					back()
					for {
						ev, ok, _ := r.Next()
						if !ok {
							break
						}
						events = append(events, kept(ev))
						spoilEvent(ev)
					}
				}
				if !slices.EqualFunc(merged(events), l.events, same) {
					t.Fatalf("%q cut at %d and %d: %v", l.s, at, to, events)
				}
			}
		}
	}
}

// P20.6: an event stays as it is while others are written over, and more is fed and told.
func TestMemoryOfEvents(t *testing.T) {
	s := chunked("3\r\nabc\r\n2\r\nde\r\n0\r\nX: y\r\n\r\n")
	want := list(inChunks(), data("abc"), data("de"), finish("x", "y"))
	for stays := range want {
		r := made(t, false, 500)
		b, back := lent(t, s)
		r.Feed(b)
		var held hone.Event
		for i := range want {
			ev, _, _ := r.Next()
			if !same(ev, want[i]) {
				t.Fatalf("Next: %v, want %v", ev, want[i])
			}
			if i == stays {
				held = ev
			} else {
				spoilEvent(ev)
			}
		}
		back()
		feed(t, r, strings.Repeat("more", 100))
		wantNone(t, r, api.OK)
		if !same(held, want[stays]) {
			t.Errorf("an event changed to %v", held)
		}
	}
	r := made(t, false, 500)
	feed(t, r, ok()+"ab")
	wantEvent(t, r, closed())
	first, _, _ := r.Next()
	for range 3 {
		feed(t, r, "xyz")
		ev, _, _ := r.Next()
		spoilEvent(ev)
	}
	if !same(first, data("ab")) {
		t.Errorf("data changed to %v", first)
	}
}

// P20.6: readers share nothing.
func TestMemoryOfTwoReaders(t *testing.T) {
	one, two := made(t, false, 500), made(t, false, 500)
	feed(t, one, chunked("3\r\nab"))
	feed(t, two, chunked("0a\r\nxyz"))
	wantEvent(t, one, inChunks())
	wantEvent(t, two, inChunks())
	wantEvent(t, two, data("xyz"))
	wantEvent(t, one, data("ab"))
	feed(t, one, "cd")
	feed(t, two, "cdefghijkl")
	wantEvent(t, two, data("cdefghi"))
	wantNone(t, two, api.ErrChunk)
	wantEvent(t, one, data("c"))
	wantNone(t, one, api.ErrChunk)
}

// P20.6: a Feed that is refused, or whose bytes nobody can ask for any more, neither changes nor keeps what it is handed.
func TestMemoryOfLateFeeds(t *testing.T) {
	for _, s := range []string{"no\r\n\r\n", "HTTP/1.1 204 \r\n\r\n", ok("content-length: 2") + "hi", chunked("x\r\n")} {
		r := made(t, false, 500)
		feed(t, r, s)
		for ok := true; ok; {
			_, ok, _ = r.Next()
		}
		_, _, was := r.Next()
		late, size := make([]byte, 10000000), 1
		if n := testing.AllocsPerRun(6, func() {
			size *= 10
			r.Feed(late[:size])
		}); n > 0 {
			t.Errorf("%q: what comes late takes %v pieces of memory", s, n)
		}
		b, back := lent(t, "HTTP/1.1 204 \r\n\r\n")
		r.Feed(b)
		back()
		wantNone(t, r, was)
		end(t, r)
		b, back = lent(t, "HTTP/1.1 204 \r\n\r\n")
		r.Feed(b)
		back()
		wantNone(t, r, was)
	}
}

package hframe_test

import (
	"bytes"
	"slices"
	"strings"
	"testing"

	"turnpike/api"
	"turnpike/hframe"
)

// spoil writes over bytes and their spare room.
func spoil(b []byte) {
	b = b[:cap(b)]
	for i := range b {
		b[i] = 0x55
	}
}

// lent: bytes with spare room, and the call that asks whether both are as they were and then writes over them.
func lent(t *testing.T, b []byte) (given []byte, back func()) {
	given = slices.Concat(b, bytes.Repeat([]byte{0x99}, 20))[:len(b)]
	was := slices.Clone(given[:cap(given)])
	return given, func() {
		t.Helper()
		if !bytes.Equal(given[:cap(given)], was) {
			t.Errorf("%.40x was changed", b)
		}
		spoil(given)
	}
}

// P17.6: what is fed is neither changed nor kept, at whatever place it is cut, and what is told is not the reader's.
func TestMemoryOfReaders(t *testing.T) {
	for _, l := range []life{
		{request, 100, unhex(t, "21 02 0102 01 03 616263 00 05 7677787a7a 00 01 61 01 02 6364"), true, list(headers("abc"), data("vwxzza"), headers("cd")), api.OK},
		{control, 100, unhex(t, "04 05 01 4005 0703 07 02 4009 0d 01 05 07 01 08"), true, list(settled(5, 3, -1), goaway(9), goaway(8)), api.ErrCritical},
	} {
		for at := range len(l.b) + 1 {
			for to := at; to <= len(l.b); to++ {
				r := made(t, l.kind, l.limit)
				var events []hframe.Event
				for _, piece := range [][]byte{l.b[:at], l.b[at:to], l.b[to:]} {
					b, back := lent(t, piece)
					feed(t, r, b)
					back()
					more, _ := drain(t, r)
					for _, ev := range more {
						s := ev
						s.Data = slices.Clone(ev.Data)
						events = append(events, s)
						spoil(ev.Data)
					}
				}
				end(t, r)
				wantNone(t, r, l.e)
				if !slices.EqualFunc(merged(events), l.events, same) {
					t.Fatalf("%x cut at %d and %d: %v", l.b, at, to, events)
				}
			}
		}
	}
}

// P17.6: what is told is new memory each time, its spare room too.
func TestMemoryOfEvents(t *testing.T) {
	b := slices.Concat(framed(1, []byte("head")), framed(0, []byte("one")), framed(0, []byte("two")), framed(33, []byte("no")), framed(1, []byte("tail")))
	r := made(t, request, 100)
	feed(t, r, b)
	was := slices.Clone(b)
	var events []hframe.Event
	for range 4 {
		ev, _, _ := r.Next()
		for _, earlier := range events {
			spoil(earlier.Data)
		}
		events = append(events, ev)
		want := []string{"head", "one", "two", "tail"}[len(events)-1]
		if string(ev.Data) != want {
			t.Fatalf("Next: %s, want %s", ev.Data, want)
		}
	}
	if !bytes.Equal(b, was) {
		t.Errorf("what was fed was changed")
	}
	// An event stays as it is while more is fed and told.
	r = made(t, request, 100)
	feed(t, r, unhex(t, "01 02 6162 00 04 63"))
	first, _, _ := r.Next()
	second, _, _ := r.Next()
	for range 3 {
		feed(t, r, []byte("x"))
		ev, _, _ := r.Next()
		spoil(ev.Data)
	}
	feed(t, r, bytes.Repeat([]byte{0x21, 0}, 100))
	wantNone(t, r, api.OK)
	if string(first.Data) != "ab" || string(second.Data) != "c" {
		t.Errorf("events changed: %s, %s", first.Data, second.Data)
	}
}

// P17.6: a refused Feed neither changes nor keeps what it is handed.
func TestMemoryOfRefusedFeeds(t *testing.T) {
	for _, digits := range []string{"02 00", "01 00 01 4065 00", "01 01 61"} {
		r := made(t, request, 100)
		b, back := lent(t, unhex(t, digits))
		feed(t, r, b)
		drain(t, r)
		back()
		b, back = lent(t, unhex(t, "00 01 61"))
		feed(t, r, b)
		drain(t, r)
		end(t, r)
		r.Feed(b)
		back()
	}
}

// P17.6: frames are new memory, and payloads stay as they are.
func TestMemoryOfFrames(t *testing.T) {
	for _, kind := range []int{0, 1, 1 << 30, -1, api.MaxNum, api.MaxNum + 1} {
		for _, length := range []int{0, 1, 64, 1 << 20, 1<<20 + 1} {
			text := []byte(strings.Repeat("t", length))
			payload, back := lent(t, text)
			one, e := hframe.Frame(kind, payload)
			two, _ := hframe.Frame(kind, payload)
			want := slices.Clone(two)
			spoil(one)
			back()
			if !bytes.Equal(two, want) {
				t.Errorf("two frames of %d share memory", kind)
			}
			if e == api.OK && !bytes.Equal(two, framed(kind, text)) {
				t.Errorf("a frame shares memory with its payload")
			}
			spoil(two)
		}
	}
	for range 3 {
		b, e := hframe.PutSettings(settings(5, 6, 7))
		wantBytes(t, "PutSettings", b, e, unhex(t, "04 06 01 05 07 06 06 07"), api.OK)
		spoil(b)
		b, e = hframe.PutGoaway(300)
		wantBytes(t, "PutGoaway", b, e, unhex(t, "07 02 412c"), api.OK)
		spoil(b)
	}
}

// P17.6: readers are on their own.
func TestReadersAreOnTheirOwn(t *testing.T) {
	b := unhex(t, "01 02 6162 00 03 78")
	one, two := made(t, request, 100), made(t, request, 0)
	feed(t, one, b)
	feed(t, two, b)
	wantNone(t, two, api.ErrLarge)
	end(t, two)
	wantEvent(t, one, headers("ab"))
	wantEvent(t, one, data("x"))
	wantNone(t, one, api.OK)
	feed(t, one, []byte("yz"))
	wantEvent(t, one, data("yz"))
	wantNone(t, two, api.ErrLarge)
}

package hframe_test

import (
	"bytes"
	"encoding/binary"
	"encoding/hex"
	"math/bits"
	"slices"
	"strings"
	"testing"

	"turnpike/api"
	"turnpike/hframe"
)

// The kinds of streams.
const (
	request = 1
	control = 2
)

// known and barred are the types that the chapter names.
var (
	known  = []int{0, 1, 4, 7, 13}
	barred = []int{2, 3, 5, 6, 8, 9}
)

// unhex: bytes from digits, blanks among them.
func unhex(t *testing.T, digits string) []byte {
	t.Helper()
	b, err := hex.DecodeString(strings.ReplaceAll(digits, " ", ""))
	if err != nil {
		t.Fatal(err)
	}
	return b
}

// long: a number in a form of the size, by the library's means and not by layer 1.
func long(n, size int) []byte {
	var b [8]byte
	binary.BigEndian.PutUint64(b[:], uint64(n))
	form := slices.Clone(b[8-size:])
	form[0] |= byte(bits.TrailingZeros(uint(size))) << 6
	return form
}

// short: a number in its shortest form.
func short(n int) []byte {
	switch {
	case n < 1<<6:
		return long(n, 1)
	case n < 1<<14:
		return long(n, 2)
	case n < 1<<30:
		return long(n, 4)
	}
	return long(n, 8)
}

// nums: numbers in their shortest forms.
func nums(list ...int) []byte {
	var b []byte
	for _, n := range list {
		b = append(b, short(n)...)
	}
	return b
}

// framed: a frame in shortest forms.
func framed(kind int, payload []byte) []byte {
	return slices.Concat(nums(kind, len(payload)), payload)
}

// The events.
func headers(s string) hframe.Event { return hframe.Event{Kind: 1, Data: []byte(s)} }
func data(s string) hframe.Event    { return hframe.Event{Kind: 2, Data: []byte(s)} }
func goaway(id int) hframe.Event    { return hframe.Event{Kind: 4, ID: id} }
func settled(capacity, blocked, limit int) hframe.Event {
	return hframe.Event{Kind: 3, Settings: hframe.Settings{Capacity: capacity, Blocked: blocked, Limit: limit}}
}

// same: whether two events are alike; no bytes and nil are one.
func same(a, b hframe.Event) bool {
	return a.Kind == b.Kind && bytes.Equal(a.Data, b.Data) && a.Settings == b.Settings && a.ID == b.ID
}

// list: some events.
func list(events ...hframe.Event) []hframe.Event { return events }

// merged: the same events, pieces of data that follow one another put together.
func merged(events []hframe.Event) []hframe.Event {
	var out []hframe.Event
	for _, ev := range events {
		if last := len(out) - 1; ev.Kind == hframe.Data && last >= 0 && out[last].Kind == hframe.Data {
			out[last] = data(string(out[last].Data) + string(ev.Data))
			continue
		}
		out = append(out, ev)
	}
	return out
}

// made: a reader that is made with OK.
func made(t *testing.T, kind, limit int) *hframe.Reader {
	t.Helper()
	r, e := hframe.New(kind, limit)
	if r == nil || e != api.OK {
		t.Fatalf("New(%d, %d): %v, %d", kind, limit, r, e)
	}
	return r
}

// feed feeds bytes that are not refused.
func feed(t *testing.T, r *hframe.Reader, b []byte) {
	t.Helper()
	if e := r.Feed(b); e != api.OK {
		t.Fatalf("Feed(%.40x): %d", b, e)
	}
}

// end tells the end, which is not refused.
func end(t *testing.T, r *hframe.Reader) {
	t.Helper()
	if e := r.End(); e != api.OK {
		t.Fatalf("End: %d", e)
	}
}

// wantEvent asks for the next event.
func wantEvent(t *testing.T, r *hframe.Reader, want hframe.Event) {
	t.Helper()
	if ev, ok, e := r.Next(); !same(ev, want) || !ok || e != api.OK {
		t.Fatalf("Next: %v, %t, %d; want %v", ev, ok, e, want)
	}
}

// wantNone asks a reader that has no event, again and again.
func wantNone(t *testing.T, r *hframe.Reader, want api.Errno) {
	t.Helper()
	for range 3 {
		if ev, ok, e := r.Next(); !same(ev, hframe.Event{}) || ok || e != want {
			t.Fatalf("Next: %v, %t, %d; want none, %d", ev, ok, e, want)
		}
	}
}

// wantDone asks Done.
func wantDone(t *testing.T, r *hframe.Reader, want bool) {
	t.Helper()
	if r.Done() != want {
		t.Fatalf("Done: %t", !want)
	}
}

// drain: all events till there is none, and the error.
func drain(t *testing.T, r *hframe.Reader) ([]hframe.Event, api.Errno) {
	t.Helper()
	var events []hframe.Event
	for {
		ev, ok, e := r.Next()
		if !ok {
			if !same(ev, hframe.Event{}) {
				t.Fatalf("Next: %v beside %d", ev, e)
			}
			return events, e
		}
		if e != api.OK || ev.Kind == hframe.Data && len(ev.Data) == 0 {
			t.Fatalf("Next: %v, %d", ev, e)
		}
		events = append(events, ev)
	}
}

// life is a stream and what a reader tells of it, with the error behind its events.
type life struct {
	kind, limit int
	b           []byte
	over        bool
	events      []hframe.Event
	e           api.Errno
}

// cuts: the places at which a stream is cut: all of a short one.
func cuts(n int) []int {
	var places []int
	for at := range n + 1 {
		if n < 200 || at < 20 || at > n-20 || at%(n/7) == 0 {
			places = append(places, at)
		}
	}
	return places
}

// want reads the stream in two pieces, cut at each place, in single bytes, and as a whole.
func (l life) want(t *testing.T) {
	t.Helper()
	for _, at := range cuts(len(l.b)) {
		l.wantOf(t, [][]byte{l.b[:at], l.b[at:]})
	}
	if len(l.b) < 200 {
		l.wantOf(t, slices.Collect(slices.Chunk(l.b, 1)))
	}
}

// wantOf reads the stream in pieces and asks Next to its end behind each.
func (l life) wantOf(t *testing.T, pieces [][]byte) {
	t.Helper()
	r := made(t, l.kind, l.limit)
	var events []hframe.Event
	var e api.Errno
	tell := func() {
		more, now := drain(t, r)
		events = append(events, more...)
		if e != api.OK && (len(more) > 0 || now != e) {
			t.Fatalf("%.40x: behind %d %v, %d", l.b, e, more, now)
		}
		e = now
	}
	for _, piece := range pieces {
		feed(t, r, piece)
		tell()
		wantDone(t, r, false)
	}
	if l.over {
		end(t, r)
		wantDone(t, r, false)
		tell()
	}
	tell()
	if !slices.EqualFunc(merged(events), merged(l.events), same) || e != l.e {
		t.Fatalf("a stream %d of %.40x in pieces of %.40x: %v, %d; want %v, %d", l.kind, l.b, pieces, events, e, l.events, l.e)
	}
	wantDone(t, r, l.over && l.kind == request && l.e == api.OK)
}

// wantRequest asks what is told of a request stream that is over.
func wantRequest(t *testing.T, digits string, e api.Errno, events ...hframe.Event) {
	t.Helper()
	life{request, 100, unhex(t, digits), true, events, e}.want(t)
}

// wantControl asks what is told of a control stream that goes on.
func wantControl(t *testing.T, digits string, e api.Errno, events ...hframe.Event) {
	t.Helper()
	life{control, 100, unhex(t, digits), false, events, e}.want(t)
}

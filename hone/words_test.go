package hone_test

import (
	"slices"
	"strings"
	"testing"

	"turnpike/api"
	"turnpike/hone"
)

// fields: from names and values by turns.
func fields(texts ...string) []api.Field {
	var list []api.Field
	for i := 0; i < len(texts); i += 2 {
		list = append(list, api.Field{Name: texts[i], Value: texts[i+1]})
	}
	return list
}

// lines: each with CR LF behind it.
func lines(list ...string) string {
	return strings.Join(append(list, ""), "\r\n")
}

// ok: a head with the status 200 and more lines.
func ok(list ...string) string {
	return lines("HTTP/1.1 200 OK") + lines(list...) + lines("")
}

// chunked: a head whose body comes in chunks, and that body.
func chunked(body string) string {
	return ok("Transfer-Encoding: chunked") + body
}

// The events.
func head(status, framing int, texts ...string) hone.Event {
	return hone.Event{Kind: 1, Status: status, Framing: framing, Fields: fields(texts...)}
}

func data(s string) hone.Event           { return hone.Event{Kind: 2, Data: []byte(s)} }
func finish(texts ...string) hone.Event  { return hone.Event{Kind: 3, Fields: fields(texts...)} }
func list(ev ...hone.Event) []hone.Event { return ev }

// inChunks: the head's event of a response in chunks.
func inChunks() hone.Event { return head(200, hone.Chunked, "transfer-encoding", "chunked") }

// same: whether two events are alike; none and nil are one.
func same(a, b hone.Event) bool {
	return a.Kind == b.Kind && a.Status == b.Status && a.Framing == b.Framing && slices.Equal(a.Fields, b.Fields) && string(a.Data) == string(b.Data)
}

// merged: the same events, pieces of data that follow one another put together.
func merged(events []hone.Event) []hone.Event {
	var out []hone.Event
	for _, ev := range events {
		if last := len(out) - 1; ev.Kind == hone.Data && last >= 0 && out[last].Kind == hone.Data {
			out[last] = data(string(out[last].Data) + string(ev.Data))
			continue
		}
		out = append(out, ev)
	}
	return out
}

// made: a reader that is made with OK.
func made(t *testing.T, head bool, limit int) *hone.Reader {
	t.Helper()
	r, e := hone.New(head, limit)
	if r == nil || e != api.OK {
		t.Fatalf("New(%t, %d): %v, %d", head, limit, r, e)
	}
	return r
}

// feed feeds bytes that are not refused.
func feed(t *testing.T, r *hone.Reader, s string) {
	t.Helper()
	if e := r.Feed([]byte(s)); e != api.OK {
		t.Fatalf("Feed(%.40q): %d", s, e)
	}
}

// end tells the end, which is not refused.
func end(t *testing.T, r *hone.Reader) {
	t.Helper()
	if e := r.End(); e != api.OK {
		t.Fatalf("End: %d", e)
	}
}

// wantEvent asks for the next event.
func wantEvent(t *testing.T, r *hone.Reader, want hone.Event) {
	t.Helper()
	if ev, ok, e := r.Next(); !same(ev, want) || !ok || e != api.OK {
		t.Fatalf("Next: %v, %t, %d; want %v", ev, ok, e, want)
	}
}

// wantNone asks a reader that has no event, again and again.
func wantNone(t *testing.T, r *hone.Reader, want api.Errno) {
	t.Helper()
	for range 3 {
		if ev, ok, e := r.Next(); !same(ev, hone.Event{}) || ok || e != want {
			t.Fatalf("Next: %v, %t, %d; want none, %d", ev, ok, e, want)
		}
	}
}

// wantState asks Left, Done and Reusable.
func wantState(t *testing.T, r *hone.Reader, left int, done, reusable bool) {
	t.Helper()
	if r.Left() != left || r.Done() != done || r.Reusable() != reusable {
		t.Fatalf("Left %d, Done %t, Reusable %t; want %d, %t, %t", r.Left(), r.Done(), r.Reusable(), left, done, reusable)
	}
}

// life is what a server says, and what a reader tells of it, with the error behind its events.
type life struct {
	head   bool
	limit  int
	s      string
	over   bool
	events []hone.Event
	e      api.Errno
}

// cuts: the places at which a response is cut: all of a short one.
func cuts(n int) []int {
	var places []int
	for at := range n + 1 {
		if n < 300 || at < 20 || at > n-20 || at%(n/7) == 0 {
			places = append(places, at)
		}
	}
	return places
}

// want reads the response in two pieces, cut at each place, and in single bytes.
func (l life) want(t *testing.T) {
	t.Helper()
	for _, at := range cuts(len(l.s)) {
		l.wantOf(t, []string{l.s[:at], l.s[at:]})
	}
	if len(l.s) < 3000 {
		var single []string
		for i := range len(l.s) {
			single = append(single, l.s[i:i+1])
		}
		l.wantOf(t, single)
	}
}

// wantOf reads the response in pieces and asks Next to its end behind each; at every step all answers are held against the model's, too.
func (l life) wantOf(t *testing.T, pieces []string) {
	t.Helper()
	p := pair{made(t, l.head, l.limit), &model{head: l.head, limit: l.limit}}
	var events []hone.Event
	var e api.Errno
	tell := func() {
		for ok := true; ok; {
			var ev hone.Event
			ev, ok, e = p.next(t)
			if ok {
				events = append(events, ev)
			}
		}
	}
	for _, piece := range pieces {
		p.feed(t, piece)
		tell()
	}
	if l.over {
		p.end(t)
		tell()
	}
	tell()
	if !slices.EqualFunc(merged(events), merged(l.events), same) || e != l.e {
		t.Fatalf("%.200q in pieces of %.40q, over %t: %v, %d; want %v, %d", l.s, pieces, l.over, events, e, l.events, l.e)
	}
}

// wantTold asks what is told of a response that goes on.
func wantTold(t *testing.T, s string, e api.Errno, events ...hone.Event) {
	t.Helper()
	life{false, 500, s, false, events, e}.want(t)
}

// wantOver asks what is told of a response behind which End is told.
func wantOver(t *testing.T, s string, e api.Errno, events ...hone.Event) {
	t.Helper()
	life{false, 500, s, true, events, e}.want(t)
}

// wantBoth asks what is told of a response, whether End is told behind it or not.
func wantBoth(t *testing.T, s string, e api.Errno, events ...hone.Event) {
	t.Helper()
	wantTold(t, s, e, events...)
	wantOver(t, s, e, events...)
}

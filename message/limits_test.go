package message_test

import (
	"math"
	"strings"
	"testing"

	"turnpike/api"
	"turnpike/message"
)

// wantLimits asks about a list, against which nothing but the limits can be said, at limits below and above what it has.
func wantLimits(t *testing.T, list []api.Field, ask func(l message.Limits) api.Errno) {
	t.Helper()
	count, size := len(list), sizeOf(list)
	for _, c := range []int{math.MinInt, -count - 1, -2, -1, 0, 1, count - 1, count, count + 1, math.MaxInt} {
		for _, s := range []int{math.MinInt, -size - 1, -2, -1, 0, 1, size - 1, size, size + 1, math.MaxInt} {
			l := message.Limits{Count: c, Size: s}
			if e, want := ask(l), okIf(count <= c && size <= s, api.ErrFields); e != want {
				t.Errorf("%.200q at %v: %d, want %d", list, l, e, want)
			}
		}
	}
}

// P18.1, P18.5: a list may have just as many fields, and just as long ones, as the limits say.
func TestLimits(t *testing.T) {
	long := strings.Repeat("v", 70000)
	for _, list := range [][]api.Field{get(), get("accept", "*/*"), get("x", ""), get("x", "", "x", ""), get("x", long), get("x", "\x80ä\xff"), fields(":method", "CONNECT", ":authority", "a")} {
		wantLimits(t, list, func(l message.Limits) api.Errno {
			r, e := message.Check(list, l)
			if e != api.OK && !same(r, message.Request{}) {
				t.Errorf("Check(%.200q, %v): %v beside %d", list, l, r, e)
			}
			return e
		})
	}
	for _, list := range [][]api.Field{nil, {}, fields("a", ""), fields("a", "", "a", ""), fields("accept", "*/*"), fields("x", long), fields("x", "ä")} {
		wantLimits(t, list, func(l message.Limits) api.Errno { return message.Trailers(list, l) })
	}
}

// P18.1, P18.5: all fields count: pseudo fields, host fields, and those that are wrong.
func TestLimitsAheadOfAll(t *testing.T) {
	for _, list := range [][]api.Field{
		get("A", "\n"), get(":path", "/"), get("host", "a.b"), get("connection", "close"), get("content-length", "x"),
		get("te", "trailers"), fields(":path", "/"), fields("", ""), fields(":", ""), make([]api.Field, 3),
	} {
		count, size := len(list), sizeOf(list)
		for _, l := range []message.Limits{{Count: count - 1, Size: size}, {Count: count, Size: size - 1}, {Count: count - 1, Size: size - 1}, {Count: -1, Size: -1}} {
			if r, e := message.Check(list, l); e != api.ErrFields || !same(r, message.Request{}) {
				t.Errorf("Check(%q, %v): %v, %d", list, l, r, e)
			}
			if e := message.Trailers(list, l); e != api.ErrFields {
				t.Errorf("Trailers(%q, %v): %d", list, l, e)
			}
		}
	}
}

// P18.1, P18.2, P18.5: no fields are within of limits of 0, but not of less; then the method is missing.
func TestNoFields(t *testing.T) {
	for _, list := range [][]api.Field{nil, {}} {
		wantError(t, api.ErrMissing, list)
		wantTrailers(t, api.OK, list)
		for _, l := range []message.Limits{{Count: -1, Size: 0}, {Count: 0, Size: -1}, {Count: -1, Size: -1}} {
			if _, e := message.Check(list, l); e != api.ErrFields {
				t.Errorf("Check at %v: %d", l, e)
			}
			if e := message.Trailers(list, l); e != api.ErrFields {
				t.Errorf("Trailers at %v: %d", l, e)
			}
		}
	}
}

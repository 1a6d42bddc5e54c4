package message_test

import (
	"math"
	"testing"

	"turnpike/api"
	"turnpike/message"
)

// P18.5: trailers with nothing wrong.
func TestTrailers(t *testing.T) {
	wantTrailers(t, api.OK, fields("x", "1"))
	wantTrailers(t, api.OK, fields("x", "1", "x", "1", "y", "", "hosts", "a", "content-lengths", "b", "tee", "c"))
	wantTrailers(t, api.OK, fields("cookie", "1", "expect", "2", "via", "3", "trailer", "4"))
}

// P18.5: what a request may have, but trailers may not.
func TestTrailersAreNoHeaders(t *testing.T) {
	for _, f := range []api.Field{{Name: "content-length", Value: "5"}, {Name: "host", Value: "a.b"}, {Name: "te", Value: "trailers"}} {
		if _, e := check(append(get(), f)); e != api.OK {
			t.Errorf("Check with %v: %d", f, e)
		}
		wantTrailers(t, api.ErrConnField, []api.Field{f})
		wantTrailers(t, api.ErrConnField, append(fields("a", "b"), f))
		wantTrailers(t, api.ErrConnField, append([]api.Field{f}, fields("A", "b")...))
	}
	for _, value := range []string{"", "x", "16 1", "1234567890123456"} {
		wantTrailers(t, api.ErrConnField, fields("content-length", value))
		wantTrailers(t, api.ErrConnField, fields("host", value))
		wantTrailers(t, api.ErrConnField, fields("te", value))
	}
	wantTrailers(t, api.ErrConnField, fields("content-length", "5", "content-length", "6"))
	wantTrailers(t, api.ErrName, fields("Host", "a.b"))
	wantTrailers(t, api.ErrValue, fields("host", " a.b"))
}

// P18.6: a body has the length that was told, if one was.
func TestWhole(t *testing.T) {
	numbers := []int{math.MinInt, -6, -5, -2, -1, 0, 1, 4, 5, 6, 999999999999999, math.MaxInt}
	for _, length := range numbers {
		for _, got := range numbers {
			r := gotten(length, "a", "b")
			want := okIf(length == -1 || length == got, api.ErrTotal)
			if e := message.Whole(r, got); e != want {
				t.Errorf("Whole of %d: %d of %d, want %d", length, e, got, want)
			}
			if e := message.Whole(message.Request{Length: length}, got); e != want {
				t.Errorf("Whole of %d alone: %d of %d, want %d", length, e, got, want)
			}
		}
	}
}

// P18.4, P18.6: Whole takes what Check told.
func TestWholeOfRequests(t *testing.T) {
	for value, n := range map[string]int{"5": 5, "0": 0, "007": 7} {
		r, _ := check(get("content-length", value))
		for got := -2; got < 12; got++ {
			if e := message.Whole(r, got); e != okIf(got == n, api.ErrTotal) {
				t.Errorf("content-length %s and %d: %d", value, got, e)
			}
		}
	}
	r, _ := check(get())
	for got := -2; got < 12; got++ {
		if e := message.Whole(r, got); e != api.OK {
			t.Errorf("no content-length and %d: %d", got, e)
		}
	}
}

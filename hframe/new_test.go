package hframe_test

import (
	"math"
	"testing"

	"turnpike/api"
	"turnpike/hframe"
)

// P17.1
func TestNewAtEachKindAndLimit(t *testing.T) {
	kinds := map[int]bool{1: true, 2: true, 0: false, 3: false, -1: false, -2: false, 4: false, math.MaxInt: false, math.MinInt: false}
	limits := map[int]bool{0: true, 1: true, 16384: true, 1<<20 - 1: true, 1 << 20: true, 1<<20 + 1: false, -1: false, 1 << 21: false, math.MaxInt: false, math.MinInt: false}
	for kind, isKind := range kinds {
		for limit, isLimit := range limits {
			want := api.OK
			if !isLimit {
				want = api.ErrRange
			}
			if !isKind {
				want = api.ErrKind // named first
			}
			r, e := hframe.New(kind, limit)
			if e != want || (r != nil) != (want == api.OK) {
				t.Errorf("New(%d, %d): %v, %d; want %d", kind, limit, r, e, want)
			}
		}
	}
}

// P17.1: the numbers of the kinds.
func TestNumbersOfEvents(t *testing.T) {
	if hframe.Headers != 1 || hframe.Data != 2 || hframe.Settled != 3 || hframe.Goaway != 4 {
		t.Errorf("the kinds of events: %d, %d, %d, %d", hframe.Headers, hframe.Data, hframe.Settled, hframe.Goaway)
	}
}

// P17.1: the bound of New is that of a headers frame's payload, and of no other's.
func TestLimitIsThatOfHeaders(t *testing.T) {
	for _, limit := range []int{0, 1, 63, 64, 1 << 20} {
		text := make([]byte, limit)
		b := framed(1, text)
		life{request, limit, b, true, list(headers(string(text))), api.OK}.want(t)
		life{request, limit, append(b, 0, 2, 'x', 'y'), true, list(headers(string(text)), data("xy")), api.OK}.want(t)
		life{request, limit, nums(1, limit+1), false, nil, api.ErrLarge}.want(t)
		life{control, limit, unhex(t, "04 02 07 09 07 01 05"), false, list(settled(0, 9, -1), goaway(5)), api.OK}.want(t)
	}
}

// P17.2
func TestFeedAndEndBehindEnd(t *testing.T) {
	for _, kind := range []int{request, control} {
		for _, digits := range []string{"", "01", "01 00", "0101 61", "0100 0001 61", "04 00", "04 00 07 01 05", "02 00", "00 00"} {
			r := made(t, kind, 100)
			feed(t, r, unhex(t, digits))
			end(t, r)
			for range 3 {
				for _, b := range [][]byte{nil, {}, {1}, {0, 1, 'x'}} {
					if e := r.Feed(b); e != api.ErrDone {
						t.Errorf("%s: Feed(%x) behind End: %d", digits, b, e)
					}
				}
				if e := r.End(); e != api.ErrDone {
					t.Errorf("%s: End behind End: %d", digits, e)
				}
				r.Next()
			}
		}
	}
}

// P17.2: what is refused behind End changes nothing.
func TestRefusedFeedsTellNothing(t *testing.T) {
	r := made(t, request, 100)
	feed(t, r, unhex(t, "0102 6162 0003 78"))
	wantEvent(t, r, headers("ab"))
	end(t, r)
	r.Feed([]byte("yz"))
	r.End()
	wantEvent(t, r, data("x"))
	wantNone(t, r, api.ErrShort)

	r = made(t, request, 100)
	feed(t, r, unhex(t, "0102 6162"))
	end(t, r)
	r.Feed(unhex(t, "0001 78"))
	r.End()
	wantEvent(t, r, headers("ab"))
	wantNone(t, r, api.OK)
	wantDone(t, r, true)
	r.Feed(unhex(t, "02 00"))
	r.End()
	wantNone(t, r, api.OK)
	wantDone(t, r, true)
}

// P17.2: an error of Next refuses neither the bytes behind it nor the end.
func TestFeedAndEndBehindAnError(t *testing.T) {
	for _, kind := range []int{request, control} {
		r := made(t, kind, 100)
		feed(t, r, unhex(t, "02 00"))
		_, _, first := r.Next()
		for range 3 {
			feed(t, r, nil)
			feed(t, r, unhex(t, "0102 6162 0400"))
			wantNone(t, r, first)
		}
		end(t, r)
		wantNone(t, r, first)
		if r.Feed(nil) != api.ErrDone || r.End() != api.ErrDone {
			t.Errorf("no ErrDone behind End, behind an error")
		}
		wantNone(t, r, first)
		wantDone(t, r, false)
	}
}

// P17.2: no bytes are bytes, too.
func TestFeedOfNothing(t *testing.T) {
	r := made(t, request, 100)
	for _, b := range unhex(t, "0102 6162 0002 7879") {
		feed(t, r, nil)
		feed(t, r, []byte{b})
		feed(t, r, []byte{})
	}
	wantEvent(t, r, headers("ab"))
	wantEvent(t, r, data("xy"))
	wantNone(t, r, api.OK)
}

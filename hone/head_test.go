package hone_test

import (
	"strings"
	"testing"

	"turnpike/api"
	"turnpike/hone"
)

// wantLimited asks what is told with a limit, End told behind it or not.
func wantLimited(t *testing.T, limit int, s string, e api.Errno, events ...hone.Event) {
	t.Helper()
	life{false, limit, s, false, events, e}.want(t)
	life{false, limit, s, true, events, e}.want(t)
}

// P20.3: heads that are as long as the limit, and longer.
func TestHeadAtTheLimit(t *testing.T) {
	for _, s := range []string{"HTTP/1.1 204 \r\n\r\n", lines("HTTP/1.0 204 No Content", "A: b", "C: d", "")} {
		var told []hone.Event
		if strings.Contains(s, "A") {
			told = list(head(204, 0, "a", "b", "c", "d"), finish())
		} else {
			told = list(head(204, 0), finish())
		}
		n := len(s)
		for _, limit := range []int{n, n + 1, n + 4, 1 << 20} {
			wantLimited(t, limit, s, api.OK, told...)
			wantLimited(t, limit, s+"more", api.OK, told...) // what is behind it is none of its bytes
			wantLimited(t, limit, s+"\r\n\r\n", api.OK, told...)
		}
		for _, limit := range []int{0, 1, n / 2, n - 4, n - 2, n - 1} {
			wantLimited(t, limit, s, api.ErrLarge)
			wantLimited(t, limit, s+"more", api.ErrLarge)
		}
	}
	life{false, 0, "", false, nil, api.OK}.want(t)
	life{false, 0, "", true, nil, api.ErrEarly}.want(t)
}

// P20.3: beginnings of heads with no end in sight.
func TestHeadWithNoEnd(t *testing.T) {
	for _, s := range []string{"x", "\r", "\r\n", "\r\n\r", "HTTP/1.1 200 \r\n", "HTTP/1.1 200 \r\nA: b\r\n\r", "\n\n\r\r\n", "a\r\n\rb\n\r\n"} {
		n := len(s)
		for _, limit := range []int{n, n + 1, 500} {
			life{false, limit, s, false, nil, api.OK}.want(t)
			life{false, limit, s, true, nil, api.ErrEarly}.want(t)
		}
		wantLimited(t, n-1, s, api.ErrLarge)
		wantLimited(t, 0, s, api.ErrLarge)
	}
	for _, limit := range []int{0, 17, 100, 499} {
		wantLimited(t, limit, "HTTP/1.1 200 "+strings.Repeat("x", 487), api.ErrLarge)
		wantLimited(t, limit, strings.Repeat("\r\n x", 125), api.ErrLarge)
	}
}

// P20.3: a great head, also as it comes byte by byte, and one byte more.
func TestGreatHeads(t *testing.T) {
	s := ok("A: " + strings.Repeat("b", 1<<20-24))
	if len(s) != 1<<20 {
		t.Fatalf("a head of %d bytes", len(s))
	}
	told := head(200, hone.Close, "a", strings.Repeat("b", 1<<20-24))
	r := made(t, false, 1<<20)
	for i := range len(s) {
		if i > 0 {
			if ev, ok, e := r.Next(); ok || e != api.OK || ev.Kind != 0 {
				t.Fatalf("Next at %d: %v, %t, %d", i, ev, ok, e)
			}
		}
		r.Feed([]byte{s[i]})
	}
	wantEvent(t, r, told)
	wantNone(t, r, api.OK)

	r = made(t, false, 1<<20-1)
	feed(t, r, s[:1<<20-1])
	wantNone(t, r, api.OK)
	feed(t, r, s[1<<20-1:])
	wantNone(t, r, api.ErrLarge)
	r = made(t, false, 1<<20)
	feed(t, r, s[:1<<20-1]+"b")
	wantNone(t, r, api.OK)
	feed(t, r, "\n")
	wantNone(t, r, api.ErrLarge)
}

// P20.3: End is told at each place of a head.
func TestEndAmidAHead(t *testing.T) {
	for _, s := range []string{ok(), ok("Content-Length: 2"), lines("HTTP/1.0 404 Not Found", "A: b", "C:", "")} {
		for at := range len(s) {
			life{false, 500, s[:at], true, nil, api.ErrEarly}.want(t)
			life{false, 500, s[:at], false, nil, api.OK}.want(t)
			life{false, 500, lines("HTTP/1.1 100 ", "") + s[:at], true, nil, api.ErrEarly}.want(t)
			life{false, 500, lines("HTTP/1.1 100 ", "") + s[:at], false, nil, api.OK}.want(t)
		}
	}
}

// P20.3: what is wrong in a head is not told before the head is whole, and ErrEarly goes ahead then.
func TestNothingIsToldOfHalfAHead(t *testing.T) {
	for _, s := range []string{"no", "no\r\n", "HTTP/1.1 099 \r\n", "HTTP/1.1 200 \r\nA b: c\r\n", "HTTP/1.1 200 \r\nA: \x01\r\n\r", "HTTP/1.1 200 \r\nContent-Length: x\r\n"} {
		wantTold(t, s, api.OK)
		wantOver(t, s, api.ErrEarly)
	}
}

// P20.3: heads below 200 are passed over.
func TestHeadsBelow200(t *testing.T) {
	told := list(head(200, hone.Length, "content-length", "2"), data("hi"), finish())
	last := ok("Content-Length: 2") + "hi"
	for _, ahead := range []string{"", lines("HTTP/1.1 100 Continue", ""), lines("HTTP/1.0 103 ", "Link: x", ""), lines("HTTP/1.1 199 ", "A: b", "C: d", ""), lines("HTTP/1.1 102 x", "")} {
		wantBoth(t, ahead+last, api.OK, told...)
		wantBoth(t, ahead+lines("HTTP/1.1 100 Continue", "")+ahead+last, api.OK, told...)
		wantBoth(t, strings.Repeat(ahead, 3)+last, api.OK, told...)
		wantTold(t, ahead+ahead, api.OK)
		wantOver(t, ahead+ahead, api.ErrEarly)
		life{true, 500, ahead + last, false, list(head(200, hone.None, "content-length", "2"), finish()), api.OK}.want(t)
	}
	// How they are framed is not asked behind them, so they have no body.
	wantBoth(t, lines("HTTP/1.1 100 ", "Content-Length: 2", "")+last, api.OK, told...)
	wantBoth(t, lines("HTTP/1.1 100 ", "Transfer-Encoding: chunked", "")+last, api.OK, told...)
	wantBoth(t, lines("HTTP/1.1 100 ", "Content-Length: 2", "")+"hi"+last, api.ErrLine)
	life{true, 500, lines("HTTP/1.1 100 ", "") + lines("HTTP/1.1 204 ", ""), false, list(head(204, 0), finish()), api.OK}.want(t)
	// They have no place in what is told of the next one.
	wantBoth(t, lines("HTTP/1.0 100 ", "Content-Length: 2", "")+chunked("0\r\n\r\n"), api.OK, inChunks(), finish())
}

// P20.3: heads below 200 are as strict as the others, and each has the whole limit.
func TestHeadsBelow200AreRead(t *testing.T) {
	last := ok("Content-Length: 0")
	for s, want := range map[string]api.Errno{
		lines("HTTP/1.1 100", ""):                                                     api.ErrLine,
		lines("HTTP/1.1 101 ", ""):                                                    api.ErrStatus,
		lines("HTTP/1.1 099 ", ""):                                                    api.ErrStatus,
		lines("HTTP/1.1 100 ", "A b: c", ""):                                          api.ErrName,
		lines("HTTP/1.1 100 ", "A: \x00", ""):                                         api.ErrValue,
		lines("HTTP/1.1 100 ", "Content-Length: x", ""):                               api.ErrFraming,
		lines("HTTP/1.1 103 ", "Content-Length: 1", "Content-Length: 2", ""):          api.ErrFraming,
		lines("HTTP/1.0 100 ", "Transfer-Encoding: chunked", ""):                      api.ErrFraming,
		lines("HTTP/1.1 199 ", "Transfer-Encoding: gzip", ""):                         api.ErrFraming,
		lines("HTTP/1.1 100 ", "Transfer-Encoding: chunked", "Content-Length: 1", ""): api.ErrFraming,
	} {
		wantBoth(t, s+last, want)
		wantBoth(t, lines("HTTP/1.1 100 ", "")+s+last, want)
		life{true, 500, s + last, false, nil, want}.want(t)
	}
	under := lines("HTTP/1.1 100 "+strings.Repeat("x", 21), "") // as long as the last one
	if len(under) != len(last) {
		t.Fatalf("heads of %d and %d bytes", len(under), len(last))
	}
	wantLimited(t, len(last), strings.Repeat(under, 4)+last, api.OK, head(200, 1, "content-length", "0"), finish())
	wantLimited(t, len(last)-1, strings.Repeat(under, 4)+last, api.ErrLarge)
	wantLimited(t, len(last), under+ok("Content-Length: 00"), api.ErrLarge)
	wantLimited(t, len(last), lines("HTTP/1.1 100 "+strings.Repeat("x", 22), "")+last, api.ErrLarge)
	wantLimited(t, 17, strings.Repeat(lines("HTTP/1.1 100 ", ""), 5)+strings.Repeat("x", 18), api.ErrLarge)
	life{false, 17, strings.Repeat(lines("HTTP/1.1 100 ", ""), 5) + strings.Repeat("x", 17), false, nil, api.OK}.want(t)
}

// P1, P20.3: ever so many of them.
func TestManyHeadsBelow200(t *testing.T) {
	r := made(t, false, 500)
	feed(t, r, strings.Repeat("HTTP/1.1 100 \r\n\r\n", 1000000))
	wantNone(t, r, api.OK)
	feed(t, r, "HTTP/1.1 204 \r\n\r\n")
	wantEvent(t, r, head(204, 0))
	wantEvent(t, r, finish())
	wantState(t, r, 0, true, true)
}

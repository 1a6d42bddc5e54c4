package hone_test

import (
	"math"
	"strings"
	"testing"

	"turnpike/api"
	"turnpike/hone"
)

// The chapter's examples.
func TestExamples(t *testing.T) {
	s := "HTTP/1.1 200 OK\r\nContent-Length: 2\r\n\r\nhi"
	wantTold(t, s, api.OK, head(200, hone.Length, "content-length", "2"), data("hi"), finish())
	r := made(t, false, 500)
	feed(t, r, s)
	wantEvent(t, r, head(200, 1, "content-length", "2"))
	wantEvent(t, r, data("hi"))
	wantEvent(t, r, finish())
	wantState(t, r, 0, true, true)

	wantTold(t, "HTTP/1.1 200 \r\n\r\n", api.OK, head(200, hone.Close))
	wantOver(t, "HTTP/1.1 200 \r\n\r\n", api.OK, head(200, 3), finish())
	wantBoth(t, "HTTP/1.1 200\r\n\r\n", api.ErrLine)
	wantBoth(t, lines("HTTP/1.1 200 OK", "Content-Length: 2", "Transfer-Encoding: chunked", ""), api.ErrFraming)
}

// The numbers of framings and events.
func TestNumbers(t *testing.T) {
	if hone.None != 0 || hone.Length != 1 || hone.Chunked != 2 || hone.Close != 3 {
		t.Error("framings")
	}
	if hone.Head != 1 || hone.Data != 2 || hone.End != 3 {
		t.Error("events")
	}
}

// P20.1: the bounds of limit.
func TestBoundsOfLimit(t *testing.T) {
	for _, head := range []bool{false, true} {
		for _, limit := range []int{-1, 1<<20 + 1, -2, 1 << 21, math.MinInt, math.MaxInt, 1 << 32} {
			if r, e := hone.New(head, limit); r != nil || e != api.ErrRange {
				t.Errorf("New(%t, %d): %v, %d", head, limit, r, e)
			}
		}
		for _, limit := range []int{0, 1, 500, 1<<20 - 1, 1 << 20} {
			r := made(t, head, limit)
			wantState(t, r, 0, false, false)
			wantNone(t, r, api.OK)
			wantState(t, r, 0, false, false)
			end(t, r)
			wantNone(t, r, api.ErrEarly)
			wantState(t, r, 0, false, false)
		}
	}
}

// P20.1: behind End both are refused, and change nothing.
func TestBehindEnd(t *testing.T) {
	refused := func(r *hone.Reader) {
		t.Helper()
		for _, b := range [][]byte{nil, {}, []byte("x"), []byte("\r\n\r\n")} {
			if e := r.Feed(b); e != api.ErrDone {
				t.Fatalf("Feed(%q): %d", b, e)
			}
			if e := r.End(); e != api.ErrDone {
				t.Fatalf("End: %d", e)
			}
		}
	}
	s := "HTTP/1.1 200 \r\n\r\nall" // 17 bytes and 3
	r := made(t, false, 500)
	feed(t, r, s)
	end(t, r)
	wantState(t, r, 20, false, false)
	refused(r)
	wantState(t, r, 20, false, false)
	wantEvent(t, r, head(200, hone.Close))
	refused(r)
	wantState(t, r, 3, false, false)
	wantEvent(t, r, data("all"))
	refused(r)
	wantEvent(t, r, finish())
	refused(r)
	wantNone(t, r, api.OK)
	wantState(t, r, 0, true, false)

	r = made(t, false, 500)
	feed(t, r, s[:16])
	end(t, r)
	refused(r)
	wantNone(t, r, api.ErrEarly)
	refused(r)
	wantNone(t, r, api.ErrEarly)
	wantState(t, r, 16, false, false)
}

// P20.1: behind an error, and behind the End that Next tells, both are taken till End is told.
func TestFeedBehindTheLastAnswer(t *testing.T) {
	r := made(t, false, 500)
	feed(t, r, "no\r\n\r\n")
	wantNone(t, r, api.ErrLine)
	feed(t, r, ok("Content-Length: 0"))
	wantNone(t, r, api.ErrLine)
	wantState(t, r, 44, false, false)
	end(t, r)
	wantNone(t, r, api.ErrLine)
	wantState(t, r, 44, false, false)
	if r.Feed(nil) != api.ErrDone || r.End() != api.ErrDone {
		t.Error("taken")
	}

	r = made(t, false, 500)
	feed(t, r, ok("Content-Length: 0"))
	wantEvent(t, r, head(200, hone.Length, "content-length", "0"))
	wantEvent(t, r, finish())
	wantState(t, r, 0, true, true)
	feed(t, r, "")
	wantState(t, r, 0, true, true)
	feed(t, r, ok("Content-Length: 0"))
	wantState(t, r, 38, true, false)
	wantNone(t, r, api.OK)
	wantState(t, r, 38, true, false)
	end(t, r)
	wantNone(t, r, api.OK)
	wantState(t, r, 38, true, false)
}

// P20.2: each error is told again by each later Next, whatever comes.
func TestErrorsStay(t *testing.T) {
	for s, want := range map[string]api.Errno{
		strings.Repeat("x", 501):                    api.ErrLarge,
		"HTTP/1.1 20 OK\r\n\r\n":                    api.ErrLine,
		"HTTP/1.1 600 OK\r\n\r\n":                   api.ErrStatus,
		ok("A b: c"):                                api.ErrName,
		ok("A: \x01"):                               api.ErrValue,
		ok("Content-Length: x"):                     api.ErrFraming,
		chunked("x\r\n"):                            api.ErrChunk,
		chunked("1\r\nab"):                          api.ErrChunk,
		chunked("0\r\nx\r\n\r\n"):                   api.ErrName,
		chunked("0\r\nx: \x7f\r\n\r\n"):             api.ErrValue,
		chunked("0\r\ncontent-length: 1\r\n\r\n"):   api.ErrFraming,
		chunked("0\r\n" + strings.Repeat("x", 501)): api.ErrLarge,
	} {
		r := made(t, false, 500)
		feed(t, r, s)
		for ok := true; ok; {
			_, ok, _ = r.Next()
		}
		for _, more := range []string{"", "\r\n\r\n", ok("Content-Length: 0"), "0\r\n\r\n", strings.Repeat("y", 1000)} {
			wantNone(t, r, want)
			left := r.Left()
			feed(t, r, more)
			wantNone(t, r, want)
			wantState(t, r, left+len(more), false, false)
		}
		end(t, r)
		wantNone(t, r, want)
	}
}

// P20.2: what comes behind a response is none of its events.
func TestBehindTheResponse(t *testing.T) {
	for _, s := range []string{"x", "\r\n", ok("Content-Length: 1") + "x", "HTTP/1.1 204 \r\n\r\n", strings.Repeat("z", 1000)} {
		wantBoth(t, ok("Content-Length: 0")+s, api.OK, head(200, 1, "content-length", "0"), finish())
		wantBoth(t, ok("Content-Length: 2")+"ab"+s, api.OK, head(200, 1, "content-length", "2"), data("ab"), finish())
		wantBoth(t, chunked("2\r\nab\r\n0\r\n\r\n")+s, api.OK, inChunks(), data("ab"), finish())
		wantBoth(t, chunked("0\r\na: b\r\n\r\n")+s, api.OK, inChunks(), finish("a", "b"))
		wantBoth(t, "HTTP/1.1 304 \r\n\r\n"+s, api.OK, head(304, hone.None), finish())
	}
}

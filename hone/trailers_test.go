package hone_test

import (
	"strings"
	"testing"

	"turnpike/api"
	"turnpike/hone"
)

// trailing: a response in chunks with what stands behind its last chunk's line.
func trailing(list ...string) string {
	return "1\r\na\r\n0\r\n" + lines(list...) + "\r\n"
}

// P20.4: trailers, none, one and several.
func TestTrailers(t *testing.T) {
	for _, c := range []struct{ list, told []string }{
		{nil, nil},
		{[]string{"X: 1"}, []string{"x", "1"}},
		{[]string{"X: 1", "y:\t2 \t", "X:", "Z-A: a b:c"}, []string{"x", "1", "y", "2", "x", "", "z-a", "a b:c"}},
		{[]string{"Connection: x", "Host: a", "TE: b", "Upgrade: c", "Trailer: d"}, []string{"connection", "x", "host", "a", "te", "b", "upgrade", "c", "trailer", "d"}},
		{[]string{"content_length: 5", "x-content-length: 5", "content-lengths:", "transfer_encoding: x"}, []string{"content_length", "5", "x-content-length", "5", "content-lengths", "", "transfer_encoding", "x"}},
		{[]string{"A: \x80\xff"}, []string{"a", "\x80\xff"}},
	} {
		wantChunks(t, trailing(c.list...), api.OK, data("a"), finish(c.told...))
		wantChunks(t, trailing(c.list...)+"\r\nmore", api.OK, data("a"), finish(c.told...))
		wantChunks(t, "00\r\n"+lines(c.list...)+"\r\n", api.OK, finish(c.told...))
	}
}

// P20.4: trailers that are none, and which error comes first.
func TestNoTrailers(t *testing.T) {
	for line, want := range map[string]api.Errno{
		"A": api.ErrName, ":": api.ErrName, ": b": api.ErrName, "A : b": api.ErrName, " A: b": api.ErrName, " ": api.ErrName, "\rA: b": api.ErrName, "\nA: b": api.ErrName, "A\x80: b": api.ErrName, ":status: 200": api.ErrName, "HTTP/1.1 200 OK": api.ErrName,
		"A b: \x01": api.ErrName,
		"A: \x01":   api.ErrValue, "A:\x7f": api.ErrValue, "A: b\rc": api.ErrValue, "A: b\nc: d": api.ErrValue, "A: b\r": api.ErrValue,
		"Content-Length: 1": api.ErrFraming, "content-length:": api.ErrFraming, "CONTENT-LENGTH: x": api.ErrFraming, "Transfer-Encoding: chunked": api.ErrFraming, "transfer-encoding: gzip": api.ErrFraming, "TRANSFER-encoding:": api.ErrFraming,
	} {
		wantChunks(t, trailing(line), want, data("a"))
		wantChunks(t, trailing("x: y", line), want, data("a"))
		wantChunks(t, trailing(line, "x: y"), want, data("a"))
		wantChunks(t, trailing(line)+"more", want, data("a"))
		wantTold(t, chunked("0\r\n"+lines(line)), api.OK, inChunks()) // not before they are whole
		wantOver(t, chunked("0\r\n"+lines(line)), api.ErrEarly, inChunks())
	}
	const name, value, framing = "A b: c", "A: \x01", "Content-Length: 1"
	wantChunks(t, trailing(name, value, framing), api.ErrName, data("a"))
	wantChunks(t, trailing(value, name, framing), api.ErrValue, data("a"))
	wantChunks(t, trailing(framing, name), api.ErrName, data("a"))
	wantChunks(t, trailing(framing, value), api.ErrValue, data("a"))
	wantChunks(t, trailing(framing, value, name), api.ErrValue, data("a"))
	wantChunks(t, trailing("Content-Length: \x01"), api.ErrValue, data("a"))
	wantChunks(t, trailing("Content-Length"), api.ErrName, data("a"))
	wantChunks(t, trailing(framing, framing), api.ErrFraming, data("a"))
}

// P20.4: End told at each place of trailers.
func TestEndAmidTrailers(t *testing.T) {
	for _, s := range []string{"\r\n", "X: 1\r\n\r\n", "X: 1\r\nY: 2\r\n\r\n", "\r\r\n\r\n"} {
		for at := range len(s) {
			wantTold(t, chunked("0\r\n"+s[:at]), api.OK, inChunks())
			wantOver(t, chunked("0\r\n"+s[:at]), api.ErrEarly, inChunks())
		}
	}
	wantChunks(t, "0\r\n\r\n", api.OK, finish())
	wantChunks(t, "0\r\n\r\r\n\r\n", api.ErrName)
	wantChunks(t, "0\r\n\n\r\n\r\n", api.ErrName)
	wantChunks(t, "0\r\n\n\n", api.OK)
}

// long: trailers of so many bytes, in one line or in two, and their event.
func long(n int, two bool) (string, hone.Event) {
	if two {
		value := strings.Repeat("y", n-len("Z: 1\r\nX: \r\n\r\n"))
		return lines("Z: 1", "X: "+value, ""), finish("z", "1", "x", value)
	}
	value := strings.Repeat("y", n-len("X: \r\n\r\n"))
	return lines("X: "+value, ""), finish("x", value)
}

// P20.4: trailers at the limit and above it, which the head takes just as well.
func TestTrailersAtTheLimit(t *testing.T) {
	start := chunked("2\r\nab\r\n0\r\n")
	begun := list(inChunks(), data("ab"))
	for _, limit := range []int{len(chunked("")), 48, 60} {
		told := func(s string, over bool, e api.Errno, events ...hone.Event) {
			t.Helper()
			life{false, limit, start + s, over, append(begun[:2:2], events...), e}.want(t)
		}
		for _, over := range []bool{false, true} {
			for _, two := range []bool{false, true} {
				for n := limit - 20; n <= limit; n++ {
					s, want := long(n, two)
					told(s, over, api.OK, want)
				}
				s, want := long(limit, two)
				told(s+"more", over, api.OK, want)
				told(s+"\r\n\r\n", over, api.OK, want)
				for n := limit + 1; n < limit+5; n++ {
					s, _ := long(n, two)
					told(s, over, api.ErrLarge)
					told(s+"more", over, api.ErrLarge)
				}
			}
			for _, s := range []string{strings.Repeat("x", limit+1), strings.Repeat(" x\r\n", limit)[:limit+1], strings.Repeat("\r", limit+1), strings.Repeat("x", 1000)} {
				told(s, over, api.ErrLarge)
			}
		}
		for _, s := range []string{strings.Repeat("x", limit), strings.Repeat(" x\r\n", limit)[:limit], strings.Repeat("\r", limit), "x"} {
			told(s, false, api.OK)
			told(s, true, api.ErrEarly)
		}
		// What is wrong in them goes behind ErrLarge.
		for _, line := range []string{"A b: c", "A: \x01", "Content-Length: 1"} {
			told(lines(line, strings.Repeat("x", limit)+": y", ""), false, api.ErrLarge)
		}
	}
}

// P20.4: great trailers, also as they come byte by byte.
func TestGreatTrailers(t *testing.T) {
	r := made(t, false, 1<<20)
	feed(t, r, chunked("0\r\n"))
	wantEvent(t, r, inChunks())
	s, want := long(1<<20, false)
	for _, c := range []byte(s) {
		if ev, ok, e := r.Next(); ok || e != api.OK {
			t.Fatalf("Next: %v, %t, %d", ev, ok, e)
		}
		r.Feed([]byte{c})
	}
	wantEvent(t, r, want)
	wantState(t, r, 0, true, true)
}

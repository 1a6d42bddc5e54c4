package hone_test

import (
	"strconv"
	"testing"

	"turnpike/api"
	"turnpike/hone"
)

// P20.3: status lines, right ones.
func TestStatusLines(t *testing.T) {
	for _, line := range []string{
		"HTTP/1.1 200 OK", "HTTP/1.0 200 OK", "HTTP/1.1 200 ", "HTTP/1.0 200 ", "HTTP/1.1 200  ", "HTTP/1.1 200 \t", "HTTP/1.1 200  OK ", "HTTP/1.1 200 \tOK\t",
		"HTTP/1.1 200 Not \t at all", "HTTP/1.1 200 201", "HTTP/1.1 200 a: b", "HTTP/1.1 200 \x80\xff\xfe", "HTTP/1.1 200 \u00e4\u20ac", "HTTP/1.1 200 HTTP/1.1 200 OK", "HTTP/1.1 200 ~!\"#",
	} {
		wantTold(t, line+"\r\n\r\nx", api.OK, head(200, hone.Close), data("x"))
		wantOver(t, line+"\r\nContent-Length: 1\r\n\r\nx", api.OK, head(200, hone.Length, "content-length", "1"), data("x"), finish())
	}
}

// P20.3: other versions, other counts of digits, other blanks, and other bytes.
func TestNoStatusLines(t *testing.T) {
	for _, line := range []string{
		"", " ", "200", "200 OK", "OK", "HTTP/1.1", "HTTP/1.1 ", "HTTP/1.1 2", "HTTP/1.1 20", "HTTP/1.1 200", "HTTP/1.1200 OK", "HTTP/1.1",
		"HTTP/2.0 200 OK", "HTTP/1.2 200 OK", "HTTP/1.9 200 OK", "HTTP/1.: 200 OK", "HTTP/1./ 200 OK", "HTTP/0.9 200 OK", "HTTP/1 200 OK", "HTTP/1. 200 OK", "HTTP/1.10 200 OK", "HTTP/1.01 200 OK", "HTTP/1.1.1 200 OK",
		"HTTP/2 200 OK", "HTTP/11 200 OK", "HTTP/1,1 200 OK", "HTTP 1.1 200 OK", "http/1.1 200 OK", "Http/1.1 200 OK", "HTTPS/1.1 200 OK", "XHTTP/1.1 200 OK", " HTTP/1.1 200 OK", "TTP/1.1 200 OK", "ICY 200 OK",
		"HTTP/1.1 20 OK", "HTTP/1.1 2 OK", "HTTP/1.1 2000 OK", "HTTP/1.1 0200 OK", "HTTP/1.1 20  OK", "HTTP/1.1  20 OK", "HTTP/1.1 OK", "HTTP/1.1 OK 200", "HTTP/1.1  OK",
		"HTTP/1.1  200 OK", "HTTP/1.1\t200 OK", "HTTP/1.1 200\tOK", "HTTP/1.1 200OK", "HTTP/1.1 200.OK", "HTTP/1.1 200x OK", "HTTP/1.1_200 OK", "HTTP/1.1 200\x00OK",
		"HTTP/1.1 2x0 OK", "HTTP/1.1 x00 OK", "HTTP/1.1 20x OK", "HTTP/1.1 2-0 OK", "HTTP/1.1 -20 OK", "HTTP/1.1 +20 OK", "HTTP/1.1 2_0 OK", "HTTP/1.1 0x2 OK", "HTTP/1.1 2.0 OK", "HTTP/1.1 20: OK", "HTTP/1.1 /20 OK", "HTTP/1.1 2 0 OK", "HTTP/1.1  00 OK", "HTTP/1.1 1a0 OK", "HTTP/1.1 \u0662\u0660 OK", "HTTP/1.1 \xd9\xa20 OK",
		"HTTP/1.1 200 \x00", "HTTP/1.1 200 O\x1fK", "HTTP/1.1 200 OK\x7f", "HTTP/1.1 200 OK\r", "HTTP/1.1 200 OK\n", "HTTP/1.1 200 \rOK", "HTTP/1.1 200 \nOK", "HTTP/1.1 200 \x0b", "HTTP/1.1 200 OK\nA: b", "\nHTTP/1.1 200 OK", "\rHTTP/1.1 200 OK",
		"Content-Length: 1", "GET / HTTP/1.1", "HTTP/1.1 200\r\n OK", "\r\nHTTP/1.1 200 OK",
	} {
		wantBoth(t, line+"\r\n\r\n", api.ErrLine)
		wantBoth(t, line+"\r\nContent-Length: 1\r\n\r\nx", api.ErrLine)
	}
}

// P20.3: each byte at each place of a status line.
func TestEachByteOfAStatusLine(t *testing.T) {
	const line = "HTTP/1.1 204 OK"
	for at := range len(line) {
		for c := range 256 {
			b := []byte(line)
			b[at] = byte(c)
			digit, plain := c >= '0' && c <= '9', c == '\t' || c >= ' ' && c != 0x7f
			status, framing := 204, hone.None
			switch {
			case at >= 9 && at < 12 && digit:
				status, _ = strconv.Atoi(string(b[9:12]))
				if status != 204 && status != 304 {
					framing = hone.Close
				}
			case at >= 13 && plain, at == 7 && c == '0', byte(c) == line[at]:
			default:
				wantOne(t, string(b)+"\r\n\r\n", api.ErrLine, hone.Event{})
				continue
			}
			switch {
			case status < 100 || status > 599:
				wantOne(t, string(b)+"\r\n\r\n", api.ErrStatus, hone.Event{})
			case status < 200:
				wantOne(t, string(b)+"\r\n\r\n", api.OK, hone.Event{})
			default:
				wantOne(t, string(b)+"\r\n\r\n", api.OK, head(status, framing))
			}
		}
	}
}

// wantOne asks for the first answer of a reader that is fed at once.
func wantOne(t *testing.T, s string, e api.Errno, want hone.Event) {
	t.Helper()
	r := made(t, false, 2000)
	feed(t, r, s)
	if ev, ok, now := r.Next(); !same(ev, want) || ok != (want.Kind != 0) || now != e {
		t.Fatalf("%.300q: Next %v, %t, %d; want %v, %d", s, ev, ok, now, want, e)
	}
}

// P20.3: each status, and how a body is framed with it.
func TestEachStatus(t *testing.T) {
	for status := range 1000 {
		digits := strconv.Itoa(status + 1000)[1:]
		for _, version := range []string{"HTTP/1.1 ", "HTTP/1.0 "} {
			s := lines(version+digits+" x", "Content-Length: 1", "")
			switch {
			case status < 100 || status > 599 || status == 101:
				wantOne(t, s, api.ErrStatus, hone.Event{})
			case status < 200:
				wantOne(t, s, api.OK, hone.Event{})
				wantOne(t, s+s, api.OK, hone.Event{})
				wantOne(t, s+lines("HTTP/1.1 200 ", ""), api.OK, head(200, hone.Close))
			case status == 204 || status == 304:
				wantOne(t, s, api.OK, head(status, hone.None, "content-length", "1"))
			default:
				wantOne(t, s, api.OK, head(status, hone.Length, "content-length", "1"))
			}
		}
	}
	for _, digits := range []string{"099", "101", "600", "000", "999", "001", "700"} {
		wantBoth(t, lines("HTTP/1.1 "+digits+" x", ""), api.ErrStatus)
		wantBoth(t, lines("HTTP/1.1 100 x", "")+lines("HTTP/1.1 "+digits+" x", ""), api.ErrStatus)
		life{true, 500, lines("HTTP/1.1 "+digits+" ", ""), false, nil, api.ErrStatus}.want(t)
	}
	for _, digits := range []string{"100", "103", "199"} {
		wantTold(t, lines("HTTP/1.1 "+digits+" x", ""), api.OK)
		wantOver(t, lines("HTTP/1.1 "+digits+" x", ""), api.ErrEarly)
	}
	for _, status := range []int{200, 599} {
		wantOver(t, lines("HTTP/1.1 "+strconv.Itoa(status)+" x", "")+"b", api.OK, head(status, hone.Close), data("b"), finish())
	}
	for _, status := range []int{204, 304} {
		wantBoth(t, lines("HTTP/1.1 "+strconv.Itoa(status)+" x", "")+"b", api.OK, head(status, hone.None), finish())
	}
}

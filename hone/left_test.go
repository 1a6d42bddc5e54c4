package hone_test

import (
	"strings"
	"testing"

	"turnpike/api"
)

// P20.5: Left, Done and Reusable at every step.
func TestEveryStep(t *testing.T) {
	r := made(t, false, 500)
	wantState(t, r, 0, false, false)
	feed(t, r, "HTTP/1.1 100 \r\n\r\n") // 17 bytes
	wantState(t, r, 17, false, false)
	wantNone(t, r, api.OK)
	wantState(t, r, 17, false, false) // they belong to no event so far
	feed(t, r, ok("Transfer-Encoding: chunked"))
	wantState(t, r, 17+47, false, false)
	feed(t, r, "3")
	wantState(t, r, 17+47+1, false, false)
	wantEvent(t, r, inChunks())
	wantState(t, r, 1, false, false)
	feed(t, r, "\r\n")
	wantNone(t, r, api.OK)
	wantState(t, r, 3, false, false)
	feed(t, r, "a")
	wantState(t, r, 4, false, false)
	wantEvent(t, r, data("a"))
	wantState(t, r, 0, false, false)
	feed(t, r, "bc\r")
	wantState(t, r, 3, false, false)
	wantEvent(t, r, data("bc"))
	wantState(t, r, 1, false, false)
	feed(t, r, "\n0\r\n")
	wantNone(t, r, api.OK)
	wantState(t, r, 5, false, false)
	feed(t, r, "\r")
	wantNone(t, r, api.OK)
	wantState(t, r, 6, false, false)
	feed(t, r, "\n")
	wantState(t, r, 7, false, false)
	wantEvent(t, r, finish())
	wantState(t, r, 0, true, true)
	wantNone(t, r, api.OK)
	wantState(t, r, 0, true, true)
	feed(t, r, "x")
	wantState(t, r, 1, true, false)
	wantNone(t, r, api.OK)
	feed(t, r, "yz")
	wantState(t, r, 3, true, false)
	end(t, r)
	wantNone(t, r, api.OK)
	wantState(t, r, 3, true, false)
}

// P20.5: the same of a Length, and with an error.
func TestEveryStepOfALength(t *testing.T) {
	r := made(t, false, 500)
	s, begun := sized("2")
	feed(t, r, s+"hi")
	wantState(t, r, len(s)+2, false, false)
	wantEvent(t, r, begun)
	wantState(t, r, 2, false, false)
	wantEvent(t, r, data("hi"))
	wantState(t, r, 0, false, false)
	wantEvent(t, r, finish())
	wantState(t, r, 0, true, true)

	r = made(t, false, 500)
	feed(t, r, chunked("1\r\nab"))
	wantEvent(t, r, inChunks())
	wantEvent(t, r, data("a"))
	wantState(t, r, 1, false, false)
	wantNone(t, r, api.ErrChunk)
	wantState(t, r, 1, false, false)
	feed(t, r, "cd")
	wantNone(t, r, api.ErrChunk)
	wantState(t, r, 3, false, false)
	end(t, r)
	wantState(t, r, 3, false, false)
}

// wantReusable reads a response to its end and asks Reusable.
func wantReusable(t *testing.T, head bool, s string, want bool) {
	t.Helper()
	r := made(t, head, 500)
	feed(t, r, s)
	for ok := true; ok; {
		if r.Reusable() && !r.Done() {
			t.Fatalf("%q: reusable ahead of its end", s)
		}
		_, ok, _ = r.Next()
	}
	if r.Left() != 0 || !r.Done() || r.Reusable() != want {
		t.Fatalf("%q: Left %d, Done %t, Reusable %t; want %t", s, r.Left(), r.Done(), r.Reusable(), want)
	}
	feed(t, r, "")
	if r.Reusable() != want {
		t.Fatalf("%q: Reusable %t behind no bytes", s, !want)
	}
	end(t, r)
	if r.Reusable() || !r.Done() {
		t.Fatalf("%q: Reusable behind End", s)
	}
	r = made(t, head, 500)
	feed(t, r, s+"x")
	for ok := true; ok; {
		_, ok, _ = r.Next()
	}
	wantState(t, r, 1, true, false)
}

// P20.5: with each framing, and each version.
func TestReusable(t *testing.T) {
	for _, version := range []string{"HTTP/1.1 ", "HTTP/1.0 "} {
		current := version == "HTTP/1.1 "
		wantReusable(t, false, lines(version+"200 ", "Content-Length: 2", "")+"hi", current)
		wantReusable(t, false, lines(version+"200 ", "Content-Length: 0", ""), current)
		wantReusable(t, false, lines(version+"204 ", ""), current)
		wantReusable(t, false, lines(version+"304 ", "Content-Length: 5", ""), current)
		wantReusable(t, true, lines(version+"200 ", ""), current)
		wantReusable(t, true, lines(version+"200 ", "Content-Length: 9", ""), current)
		wantReusable(t, false, lines(version+"200 ", "Connection: keep-alive", "Content-Length: 0", ""), current)
		// The version of a head that is passed over counts for nothing.
		wantReusable(t, false, lines("HTTP/1.0 100 ", "")+lines(version+"204 ", ""), current)
		wantReusable(t, false, lines("HTTP/1.1 100 ", "")+lines(version+"204 ", ""), current)
	}
	wantReusable(t, false, chunked("0\r\n\r\n"), true)
	wantReusable(t, false, chunked("1\r\na\r\n0\r\nx: y\r\n\r\n"), true)
	wantReusable(t, true, chunked(""), true)
	for _, version := range []string{"HTTP/1.1 ", "HTTP/1.0 "} {
		r := made(t, false, 500)
		feed(t, r, lines(version+"200 ", ""))
		wantEvent(t, r, closed())
		wantState(t, r, 0, false, false)
		end(t, r)
		wantEvent(t, r, finish())
		wantState(t, r, 0, true, false)
	}
}

// P20.5: connection fields that name close, in any case of letters, and names only like it.
func TestConnectionFields(t *testing.T) {
	for _, value := range []string{"close", "Close", "CLOSE", "cLoSe", "close,", ",close", ", close", "x, close", "x,close,y", "x ,\tclose\t , y", "close, close", "keep-alive, Close", ",,close,,", "\"x\", close", "close,x"} {
		for _, name := range []string{"Connection: ", "connection:", "CONNECTION:\t"} {
			wantReusable(t, false, lines("HTTP/1.1 204 ", name+value, ""), false)
			wantReusable(t, false, lines("HTTP/1.1 200 ", "Connection: x", "Content-Length: 0", name+value, "Connection: y", ""), false)
			wantReusable(t, true, chunked("")[:len(chunked(""))-2]+name+value+"\r\n\r\n", false)
		}
	}
	for _, value := range []string{"", ",", "x", "clos", "closed", "close x", "x close", "clo se", "close;x", "close=1", "\"close\"", "not-close", "xclose", "close.", "close\u00a0", "c,l,o,s,e", "clo,se", "\xffclose", "clo\u017fe", "keep-alive", "dlose", "close:"} {
		wantReusable(t, false, lines("HTTP/1.1 204 ", "Connection: "+value, ""), true)
		wantReusable(t, false, lines("HTTP/1.1 204 ", "Connection: "+value, "Connection: "+value, ""), true)
	}
	for c := range 256 {
		b := string([]byte{byte(c)})
		if c < ' ' && c != '\t' || c == 0x7f {
			continue
		}
		apart := strings.Contains(", \t", b)
		wantReusable(t, false, lines("HTTP/1.1 204 ", "Connection: close"+b, ""), !apart)
		wantReusable(t, false, lines("HTTP/1.1 204 ", "Connection: "+b+"close", ""), !apart)
		wantReusable(t, false, lines("HTTP/1.1 204 ", "Connection: x,"+b+"close"+b+",y", ""), !apart)
		wantReusable(t, false, lines("HTTP/1.1 204 ", "Connection: x"+b+"close", ""), b != ",")
	}
	for _, name := range []string{"connectio", "connections", "proxy-connection", "x-connection", "keep-alive", "close", "connection_"} {
		wantReusable(t, false, lines("HTTP/1.1 204 ", name+": close", ""), true)
		wantReusable(t, false, lines("HTTP/1.1 204 ", "Connection: x", name+": close", ""), true)
	}
	// A trailer is a field as well; one of a head that is passed over counts for nothing.
	wantReusable(t, false, chunked("0\r\nConnection: x, Close\r\n\r\n"), false)
	wantReusable(t, false, chunked("0\r\na: b\r\nconnection: close\r\n\r\n"), false)
	wantReusable(t, false, chunked("0\r\nConnection: x\r\n\r\n"), true)
	wantReusable(t, false, chunked("0\r\na: close\r\n\r\n"), true)
	wantReusable(t, false, chunked("")[:45]+"Connection: close\r\n\r\n0\r\na: b\r\n\r\n", false)
	wantReusable(t, false, lines("HTTP/1.1 100 ", "Connection: close", "")+lines("HTTP/1.1 204 ", ""), true)
}

// P20.5: two responses behind one another are two readers' things, and what is left says where the second begins.
func TestLeftIsTheNextResponse(t *testing.T) {
	first, second := ok("Content-Length: 2")+"hi", chunked("1\r\na\r\n0\r\n\r\n")
	all := first + second
	r := made(t, false, 500)
	feed(t, r, all)
	wantEvent(t, r, head(200, 1, "content-length", "2"))
	wantEvent(t, r, data("hi"))
	wantEvent(t, r, finish())
	wantState(t, r, len(second), true, false)
	life{false, 500, all[len(all)-r.Left():], false, list(inChunks(), data("a"), finish()), api.OK}.want(t)
}

package hone_test

import (
	"strings"
	"testing"

	"turnpike/api"
	"turnpike/hone"
)

// sized: the head of a body with a length, and its event.
func sized(n string) (string, hone.Event) {
	return ok("Content-Length: " + n), head(200, hone.Length, "content-length", n)
}

// P20.4: a Length's body in each piece, End told at each place of it.
func TestLengthBodies(t *testing.T) {
	s, begun := sized("5")
	body := "a\r\n\x00\xff"
	for at := range len(body) {
		events := []hone.Event{begun}
		if at > 0 {
			events = append(events, data(body[:at]))
		}
		wantTold(t, s+body[:at], api.OK, events...)
		wantOver(t, s+body[:at], api.ErrEarly, events...)
	}
	wantBoth(t, s+body, api.OK, begun, data(body), finish())
	wantBoth(t, s+body+"more", api.OK, begun, data(body), finish())
	s, begun = sized("0")
	wantBoth(t, s, api.OK, begun, finish())
	wantBoth(t, s+"more", api.OK, begun, finish())
	s, begun = sized("000000000000001")
	wantBoth(t, s+"ab", api.OK, begun, data("a"), finish())
	s, begun = sized("999999999999999")
	wantTold(t, s+"ab", api.OK, begun, data("ab"))
	wantOver(t, s+"ab", api.ErrEarly, begun, data("ab"))
	wantOver(t, s, api.ErrEarly, begun)
}

// P20.4: all that is there is told at once, and nothing that is not there.
func TestDataOfALength(t *testing.T) {
	r := made(t, false, 500)
	s, begun := sized("10")
	feed(t, r, s+"ab")
	feed(t, r, "c")
	wantEvent(t, r, begun)
	wantEvent(t, r, data("abc"))
	wantNone(t, r, api.OK)
	feed(t, r, "")
	wantNone(t, r, api.OK)
	feed(t, r, "d")
	wantEvent(t, r, data("d"))
	feed(t, r, "efgh")
	feed(t, r, "ijklm")
	wantEvent(t, r, data("efghij"))
	wantState(t, r, 3, false, false)
	wantEvent(t, r, finish())
	wantNone(t, r, api.OK)
	wantState(t, r, 3, true, false)
	// The End is told once nothing is missing, though nothing else comes.
	r = made(t, false, 500)
	s, begun = sized("2")
	feed(t, r, s)
	wantEvent(t, r, begun)
	wantNone(t, r, api.OK)
	feed(t, r, "ab")
	wantEvent(t, r, data("ab"))
	wantState(t, r, 0, false, false)
	end(t, r)
	wantEvent(t, r, finish())
	wantNone(t, r, api.OK)
	wantState(t, r, 0, true, false)
}

// P20.4: a body that goes on until End is told.
func TestCloseBodies(t *testing.T) {
	for _, s := range []string{"HTTP/1.1 200 \r\n\r\n", "HTTP/1.0 200 \r\n\r\n"} {
		for _, body := range []string{"a", "\r\n", "\r\n\r\n", "0\r\n\r\n", "HTTP/1.1 200 \r\n\r\n", strings.Repeat("x", 1000)} {
			wantTold(t, s+body, api.OK, closed(), data(body))
			wantOver(t, s+body, api.OK, closed(), data(body), finish())
		}
		wantTold(t, s, api.OK, closed())
		wantOver(t, s, api.OK, closed(), finish())
	}
	r := made(t, false, 500)
	feed(t, r, "HTTP/1.1 200 \r\n\r\nab")
	wantEvent(t, r, closed())
	wantEvent(t, r, data("ab"))
	wantNone(t, r, api.OK)
	feed(t, r, "c")
	feed(t, r, "d")
	end(t, r)
	wantState(t, r, 2, false, false)
	wantEvent(t, r, data("cd"))
	wantState(t, r, 0, false, false)
	wantEvent(t, r, finish())
	wantState(t, r, 0, true, false)
	wantNone(t, r, api.OK)
}

// P20.3, P20.4: a HEAD's response has no body, whatever its head tells.
func TestResponsesToHead(t *testing.T) {
	for _, list := range [][]string{nil, {"Content-Length: 9"}, {"Content-Length: 0"}, {"Transfer-Encoding: chunked"}} {
		for _, behind := range []string{"", "x", "123456789", "0\r\n\r\n"} {
			var told []string
			for _, line := range list {
				name, value, _ := strings.Cut(line, ": ")
				told = append(told, strings.ToLower(name), value)
			}
			for _, over := range []bool{false, true} {
				life{true, 500, ok(list...) + behind, over, []hone.Event{head(200, hone.None, told...), finish()}, api.OK}.want(t)
			}
		}
	}
}

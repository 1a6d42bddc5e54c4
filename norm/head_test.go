package norm_test

import (
	"slices"
	"strings"
	"testing"

	"turnpike/api"
	"turnpike/message"
	"turnpike/norm"
)

// P19.2: the chapter's example.
func TestHeadExample(t *testing.T) {
	r := asked("GET", -1, "accept", "*/*")
	wantBytes(t, "GET /x HTTP/1.1\r\nhost: a.b\r\naccept: */*\r\nvia: 3 turnpike\r\n\r\n", func() ([]byte, api.Errno) { return norm.Head(r, false) })
}

// P19.2: CONNECT is refused, with no bytes beside the error, whatever else there is; other methods like it aren't.
func TestHeadOfConnect(t *testing.T) {
	for _, r := range []message.Request{
		{Method: "CONNECT", Authority: "a.b", Length: -1},
		{Method: "CONNECT", Authority: "a.b", Length: 5, Fields: fields("content-length", "5", "accept", "*/*")},
		{Method: "CONNECT", Authority: "a.b", Length: 0, Fields: fields("cookie", "a")},
	} {
		for _, body := range []bool{false, true} {
			if b, e := norm.Head(r, body); len(b) != 0 || e != api.ErrKind {
				t.Errorf("Head(%v, %t): %q, %d", r, body, b, e)
			}
		}
	}
	for _, method := range []string{"connect", "Connect", "CONNECTS", "CONNEC", "XCONNECT"} {
		wantHead(t, asked(method, -1), false)
	}
}

// P19.2: with each framing, byte by byte, with no fields and with several.
func TestHeadOfEachFraming(t *testing.T) {
	for _, more := range [][]string{nil, {"accept", "*/*"}, {"accept", "*/*", "x", "", "accept", "text/plain", "a", "b c"}} {
		var written []string
		for pair := range slices.Chunk(more, 2) {
			written = append(written, pair[0]+": "+pair[1])
		}
		with := func(framing string) []string { return append(slices.Clone(written), framing) }
		for _, method := range []string{"GET", "HEAD", "OPTIONS", "DELETE", "post", "put", "patch", "M"} {
			wantHead(t, asked(method, -1, more...), false, written...)
		}
		for _, method := range []string{"POST", "PUT", "PATCH"} {
			wantHead(t, asked(method, -1, more...), false, with("content-length: 0")...)
		}
		for _, method := range []string{"GET", "POST", "PUT", "PATCH", "DELETE", "post"} {
			wantHead(t, asked(method, -1, more...), true, with("transfer-encoding: chunked")...)
			for _, body := range []bool{false, true} {
				wantHead(t, asked(method, 0, more...), body, with("content-length: 0")...)
				wantHead(t, asked(method, 5, more...), body, with("content-length: 5")...)
				wantHead(t, asked(method, 999999999999999, more...), body, with("content-length: 999999999999999")...)
			}
		}
	}
}

// P19.2: the request line and the host are the request's own texts.
func TestHeadLines(t *testing.T) {
	for _, c := range []struct{ method, authority, path string }{
		{"GET", "a", "/"},
		{"OPTIONS", "[::1]:443", "*"},
		{"M-SEARCH", "a.b:80", "/a/b?c=d&e=%20"},
		{"!#$%&'*+-.^_|~`", "A-b._~:%5b", "//?"},
		{strings.Repeat("M", 5000), strings.Repeat("a", 5000), "/" + strings.Repeat("x", 5000)},
	} {
		r := message.Request{Method: c.method, Scheme: "http", Authority: c.authority, Path: c.path, Length: -1}
		want := c.method + " " + c.path + " HTTP/1.1\r\nhost: " + c.authority + "\r\nvia: 3 turnpike\r\n\r\n"
		wantBytes(t, want, func() ([]byte, api.Errno) { return norm.Head(r, false) })
	}
}

// P19.2: fields are written in order, with names and values as they are, also those that the head has of its own.
func TestHeadFields(t *testing.T) {
	wantHead(t, asked("GET", -1, "b", "2", "a", "1", "b", "3", "a", "1"), false, "b: 2", "a: 1", "b: 3", "a: 1")
	wantHead(t, asked("GET", -1, "via", "2 other", "x", "y"), false, "via: 2 other", "x: y")
	wantHead(t, asked("GET", -1, "trailer", "x", "accept-encoding", "gzip"), true, "trailer: x", "accept-encoding: gzip", "transfer-encoding: chunked")
	wantHead(t, asked("GET", -1, "x", "ä\x80\xff\t  , ;:y"), false, "x: ä\x80\xff\t  , ;:y")
	wantHead(t, asked("GET", -1, "!#$%&'*+-.^_|~`09az", "v"), false, "!#$%&'*+-.^_|~`09az: v")
	wantHead(t, asked("GET", -1, "x", "content-length", "y", "te", "z", "cookie"), false, "x: content-length", "y: te", "z: cookie")
}

// P19.2: content-length, te and expect are left out, at the beginning, in the middle and at the end.
func TestHeadLeavesOut(t *testing.T) {
	for _, left := range [][]string{{"content-length", "5"}, {"te", "trailers"}, {"expect", "100-continue"}, {"expect", ""}, {"content-length", "5", "te", "trailers", "expect", "x"}} {
		for at := 0; at <= 4; at += 2 {
			more := slices.Insert([]string{"a", "1", "b", "2"}, at, left...)
			wantHead(t, asked("GET", -1, more...), false, "a: 1", "b: 2")
			wantHead(t, asked("GET", 5, more...), true, "a: 1", "b: 2", "content-length: 5")
			wantHead(t, asked("POST", -1, more...), true, "a: 1", "b: 2", "transfer-encoding: chunked")
		}
		wantHead(t, asked("GET", -1, left...), false)
		wantHead(t, asked("GET", -1, append(left, left...)...), false)
	}
}

// P19.2: names that only begin or end like one that is left out, or like cookie, are those of other fields.
func TestHeadKeepsOthers(t *testing.T) {
	for _, name := range []string{"content-length", "te", "expect", "cookie"} {
		for _, other := range []string{name + "s", name + "-", name[:len(name)-1], "x-" + name, name[1:], name + name} {
			wantHead(t, asked("GET", -1, other, "1", "x", "y", other, "2"), false, other+": 1", "x: y", other+": 2")
		}
	}
	wantHead(t, asked("GET", -1, "cookie2", "a", "cookie", "b", "set-cookie", "c", "cookie", "d", "cooki", "e"), false, "cookie2: a", "cookie: b; d", "set-cookie: c", "cooki: e")
}

// P19.2: the length is written as a number, not as the field had it.
func TestHeadLengthAsNumber(t *testing.T) {
	for text, number := range map[string]string{"5": "5", "05": "5", "000000000000007": "7", "00": "0", "0": "0", "010": "10", "999999999999999": "999999999999999", "100": "100"} {
		list := append(fields(":method", "PUT", ":scheme", "https", ":authority", "a.b", ":path", "/x"), fields("content-length", text, "x", "y")...)
		r, e := message.Check(list, message.Limits{Count: 9, Size: 999})
		if e != api.OK {
			t.Fatalf("content-length %s: %d", text, e)
		}
		wantHead(t, r, true, "x: y", "content-length: "+number)
	}
}

// P19.2: one cookie is as it is; of several the first has the values of all, wherever they stand.
func TestHeadCookies(t *testing.T) {
	for _, c := range []struct{ more, want []string }{
		{[]string{"cookie", "a=1"}, []string{"cookie: a=1"}},
		{[]string{"cookie", ""}, []string{"cookie: "}},
		{[]string{"cookie", "a=1; b=2"}, []string{"cookie: a=1; b=2"}},
		{[]string{"cookie", "a=1", "cookie", "b=2"}, []string{"cookie: a=1; b=2"}},
		{[]string{"cookie", "a", "cookie", "b", "cookie", "c"}, []string{"cookie: a; b; c"}},
		{[]string{"cookie", "a", "cookie", "a", "cookie", "a"}, []string{"cookie: a; a; a"}},
		{[]string{"cookie", "b", "x", "y", "cookie", "a"}, []string{"cookie: b; a", "x: y"}},
		{[]string{"x", "y", "cookie", "b", "z", "w", "cookie", "a", "u", "v"}, []string{"x: y", "cookie: b; a", "z: w", "u: v"}},
		{[]string{"cookie", "b", "x", "y", "cookie", "a", "x", "y", "x", "y", "cookie", "c", "x", "z"}, []string{"cookie: b; a; c", "x: y", "x: y", "x: y", "x: z"}},
		{[]string{"x", "y", "z", "w", "cookie", "a", "cookie", "b"}, []string{"x: y", "z: w", "cookie: a; b"}},
		{[]string{"cookie", "", "cookie", "b"}, []string{"cookie: ; b"}},
		{[]string{"cookie", "a", "cookie", ""}, []string{"cookie: a; "}},
		{[]string{"cookie", "a", "cookie", "", "cookie", "b"}, []string{"cookie: a; ; b"}},
		{[]string{"cookie", "", "cookie", ""}, []string{"cookie: ; "}},
		{[]string{"cookie", "a;", "cookie", "b,c"}, []string{"cookie: a;; b,c"}},
		{[]string{"te", "trailers", "cookie", "a", "expect", "x", "cookie", "b", "content-length", "5"}, []string{"cookie: a; b"}},
	} {
		wantHead(t, asked("GET", -1, c.more...), false, c.want...)
		wantHead(t, asked("GET", 7, c.more...), true, append(c.want, "content-length: 7")...)
		wantHead(t, asked("GET", -1, c.more...), true, append(c.want, "transfer-encoding: chunked")...)
	}
}

// P19.2: many fields and many cookies.
func TestHeadOfMany(t *testing.T) {
	const n = 5000
	var more, want, values []string
	for i := range n {
		more = append(more, "cookie", strings.Repeat("c", i%7), "x", strings.Repeat("v", i%5))
		values = append(values, strings.Repeat("c", i%7))
		want = append(want, "x: "+strings.Repeat("v", i%5))
	}
	want = slices.Insert(want, 0, "cookie: "+strings.Join(values, "; "))
	wantHead(t, asked("GET", -1, more...), false, want...)
}

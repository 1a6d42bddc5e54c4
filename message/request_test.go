package message_test

import (
	"slices"
	"strings"
	"testing"

	"turnpike/api"
	"turnpike/message"
)

// check: Check at wide limits.
func check(list []api.Field) (message.Request, api.Errno) {
	return message.Check(list, message.Limits{Count: 1 << 30, Size: 1 << 30})
}

// P18.1 to P18.4: the chapter's examples.
func TestExamples(t *testing.T) {
	wantRequest(t, get("accept", "*/*"), message.Request{Method: "GET", Scheme: "https", Authority: "a.b", Path: "/x", Fields: []api.Field{{Name: "accept", Value: "*/*"}}, Length: -1})
	wantError(t, api.ErrName, get("Accept", "x"))
	wantError(t, api.ErrConnField, get("connection", "close"))
	wantError(t, api.ErrPseudo, append(without(":path"), fields("accept", "*/*", ":path", "/")...))
	wantError(t, api.ErrMissing, without(":path"))
	wantRequest(t, get("content-length", "5", "content-length", "5"), gotten(5, "content-length", "5", "content-length", "5"))
	wantRequest(t, get("content-length", "5", "content-length", "05"), gotten(5, "content-length", "5", "content-length", "05"))
	wantError(t, api.ErrTotal, get("content-length", "5", "content-length", "6"))
}

// P18.2: a method is one token byte or more: each byte at each place.
func TestMethods(t *testing.T) {
	for n := range 256 {
		b := string([]byte{byte(n)})
		for _, method := range []string{b, b + "x", "x" + b, "x" + b + "x"} {
			list := with(":method", method)
			want := gotten(-1)
			want.Method = method
			if has(tokens, byte(n)) {
				wantRequest(t, list, want)
				continue
			}
			e := api.ErrPseudo
			if n < 0x20 && n != 9 || n == 0x7f || (n == 9 || n == 0x20) && method != "x"+b+"x" {
				e = api.ErrValue
			}
			wantError(t, e, list)
		}
	}
	for _, method := range []string{"GET", "get", "OPTIONS", "POST", "M-SEARCH", "connect", "Connect", "CONNECTS", "CONNEC", tokens} {
		want := gotten(-1)
		want.Method = method
		wantRequest(t, with(":method", method), want)
	}
	for _, method := range []string{"", "GET /", "GET\t/", "ä", "(", "G:T", "GET/"} {
		wantError(t, api.ErrPseudo, with(":method", method))
	}
}

// P18.2: of a request that is not CONNECT method, scheme and path have to be there; the method goes first.
func TestMissing(t *testing.T) {
	wantError(t, api.ErrMissing, without(":method"))
	wantError(t, api.ErrMissing, without(":scheme"))
	wantError(t, api.ErrMissing, without(":path"))
	wantError(t, api.ErrMissing, without(":scheme", ":path"))
	wantError(t, api.ErrMissing, without(":authority"))
	wantError(t, api.ErrMissing, without(":method", ":scheme", ":authority", ":path"))
	wantError(t, api.ErrMissing, fields("host", "a.b"))
	wantError(t, api.ErrMissing, fields("method", "GET", "scheme", "https", "path", "/"))
	wantError(t, api.ErrMissing, fields(":scheme", "ftp", ":authority", "(", ":path", "x"))
	wantError(t, api.ErrPseudo, fields(":method", "("))
	wantError(t, api.ErrPseudo, fields(":method", ""))
	wantError(t, api.ErrMissing, fields(":method", "GET", ":scheme", "ftp", ":authority", "a.b"))
	wantError(t, api.ErrMissing, fields(":method", "GET", ":path", "x", ":authority", "a.b"))
	wantError(t, api.ErrMissing, fields(":method", "GET", ":scheme", "http", ":authority", "("))
	wantError(t, api.ErrMissing, fields(":method", "OPTIONS", ":scheme", "http", ":authority", "a"))
	wantError(t, api.ErrMissing, fields(":method", "connect", ":authority", "a.b"))
}

// P18.2, P18.4: CONNECT has an authority, and neither scheme nor path.
func TestConnect(t *testing.T) {
	want := message.Request{Method: "CONNECT", Authority: "a.b:443", Length: -1}
	wantRequest(t, fields(":method", "CONNECT", ":authority", "a.b:443"), want)
	wantRequest(t, fields(":authority", "a.b:443", ":method", "CONNECT"), want)
	wantRequest(t, fields(":method", "CONNECT", ":authority", "a.b:443", "host", "a.b:443"), want)
	want.Fields, want.Length = fields("content-length", "7", "x", "y"), 7
	wantRequest(t, fields(":method", "CONNECT", ":authority", "a.b:443", "content-length", "7", "host", "a.b:443", "x", "y"), want)
	for _, more := range [][]string{{":scheme", "https"}, {":path", "/"}, {":scheme", "https", ":path", "/"}, {":scheme", ""}, {":path", ""}} {
		wantError(t, api.ErrPseudo, append(fields(":method", "CONNECT", ":authority", "a.b:443"), fields(more...)...))
		wantError(t, api.ErrPseudo, append(fields(":method", "CONNECT"), fields(more...)...))
		wantError(t, api.ErrPseudo, append(fields(":method", "CONNECT", ":authority", "("), fields(more...)...))
	}
	wantError(t, api.ErrMissing, fields(":method", "CONNECT"))
	wantError(t, api.ErrMissing, fields(":method", "CONNECT", "host", "a.b"))
	wantError(t, api.ErrMissing, fields(":method", "CONNECT", "host", "("))
	wantError(t, api.ErrPseudo, fields(":method", "CONNECT", ":authority", ""))
	wantError(t, api.ErrPseudo, fields(":method", "CONNECT", ":authority", "a/b"))
	wantError(t, api.ErrPseudo, fields(":method", "CONNECT", ":authority", "a.b", "host", "c.d"))
}

// P18.2: the scheme is http or https, in small letters.
func TestSchemes(t *testing.T) {
	for _, scheme := range []string{"http", "https"} {
		want := gotten(-1)
		want.Scheme = scheme
		wantRequest(t, with(":scheme", scheme), want)
	}
	for _, scheme := range []string{"", "HTTP", "HTTPS", "Http", "httpS", "ftp", "htt", "httpss", "https:", "http://", "ws", "h\u017fttp", "http\xff"} {
		wantError(t, api.ErrPseudo, with(":scheme", scheme))
	}
}

// P18.2: a path begins with / and has bytes from 21 to 7e but #: each byte at each place.
func TestPaths(t *testing.T) {
	for n := range 256 {
		b := string([]byte{byte(n)})
		right := n >= 0x21 && n <= 0x7e && n != '#'
		for _, path := range []string{b, b + "/", "/" + b, "/" + b + "x", "/x" + b} {
			want := gotten(-1)
			want.Path = path
			if right && path[0] == '/' {
				wantRequest(t, with(":path", path), want)
				continue
			}
			e := api.ErrPseudo
			if n < 0x20 && n != 9 || n == 0x7f || (n == 9 || n == 0x20) && path != "/"+b+"x" {
				e = api.ErrValue
			}
			wantError(t, e, with(":path", path))
		}
	}
	for _, path := range []string{"/", "//", "/a?b=c&d", "/*", "/..", "/%00", "/~\"\\^", "/" + strings.Repeat("p", 5000)} {
		want := gotten(-1)
		want.Path = path
		wantRequest(t, with(":path", path), want)
	}
	for _, path := range []string{"", "x", "x/", "*", "**", "*/", "http://a.b/", "?", "#", "/#", "/x#", "/#x", "/x y", "/x\ty", "/ä", "/\xff", "/\ufffd", "\uff0f", "/" + strings.Repeat("p", 5000) + "#"} {
		wantError(t, api.ErrPseudo, with(":path", path))
	}
}

// P18.2: for OPTIONS the path may also be just *.
func TestStar(t *testing.T) {
	ask := func(method, path string) []api.Field {
		list := with(":method", method)
		list[3].Value = path
		return list
	}
	want := gotten(-1)
	want.Method, want.Path = "OPTIONS", "*"
	wantRequest(t, ask("OPTIONS", "*"), want)
	want.Path = "/*"
	wantRequest(t, ask("OPTIONS", "/*"), want)
	for _, path := range []string{"", "**", "*x", "*/", "x*", "*#", "#", "*?", "x", "/#", "/ x"} {
		wantError(t, api.ErrPseudo, ask("OPTIONS", path))
	}
	for _, method := range []string{"GET", "options", "Options", "OPTION", "OPTIONSS", "POST", "HEAD", "TRACE"} {
		wantError(t, api.ErrPseudo, ask(method, "*"))
	}
}

// P18.3: each byte at each place of an authority, as :authority tells it and as host does.
func TestAuthorities(t *testing.T) {
	const marks = "-._~:[]%"
	for n := range 256 {
		b := string([]byte{byte(n)})
		letter := n >= 'a' && n <= 'z' || n >= 'A' && n <= 'Z' || n >= '0' && n <= '9'
		for _, authority := range []string{b, b + "x", "x" + b, "x" + b + "x"} {
			byHost := append(without(":authority"), fields("host", authority)...)
			if letter || has(marks, byte(n)) {
				want := gotten(-1)
				want.Authority = authority
				wantRequest(t, with(":authority", authority), want)
				wantRequest(t, byHost, want)
				continue
			}
			e := api.ErrPseudo
			if n < 0x20 && n != 9 || n == 0x7f || (n == 9 || n == 0x20) && authority != "x"+b+"x" {
				e = api.ErrValue
			}
			wantError(t, e, with(":authority", authority))
			wantError(t, e, byHost)
		}
	}
	for _, authority := range []string{"a.b", "a.b:443", "[::1]:8080", "A.B", ":", "%41", "..", strings.Repeat("a", 3000)} {
		want := gotten(-1)
		want.Authority = authority
		wantRequest(t, with(":authority", authority), want)
	}
	for _, authority := range []string{"", "user@a.b", "a/b", "a b", "a,b", "ä.b", "a.b\xff", "a.b?", "a.b#", "a\\b", "a_b!"} {
		wantError(t, api.ErrPseudo, with(":authority", authority))
	}
}

// P18.3: the authority is told by :authority or by host, and by all of them alike.
func TestHosts(t *testing.T) {
	bare := without(":authority")
	wantRequest(t, append(bare, fields("host", "a.b")...), gotten(-1))
	wantRequest(t, append(bare, fields("host", "a.b", "host", "a.b")...), gotten(-1))
	wantRequest(t, append(bare, fields("x", "1", "host", "a.b", "y", "2", "host", "a.b")...), gotten(-1, "x", "1", "y", "2"))
	wantRequest(t, get("host", "a.b"), gotten(-1))
	wantRequest(t, get("host", "a.b", "host", "a.b"), gotten(-1))
	wantError(t, api.ErrMissing, bare)
	wantError(t, api.ErrMissing, append(bare, fields("hosts", "a.b", "hos", "a.b", "x-host", "a.b")...))
	for _, other := range []string{"", "c.d", "A.B", "a.b:443", "a.", "a.bb", "(", "a/b"} {
		wantError(t, api.ErrPseudo, get("host", other))
		wantError(t, api.ErrPseudo, get("host", "a.b", "host", other))
		wantError(t, api.ErrPseudo, get("host", other, "host", "a.b"))
		wantError(t, api.ErrPseudo, append(bare, fields("host", "a.b", "host", other)...))
		wantError(t, api.ErrPseudo, append(bare, fields("host", other, "host", "a.b")...))
		wantError(t, api.ErrPseudo, append(bare, fields("host", "a.b", "x", "y", "host", "a.b", "host", other)...))
	}
	for _, empty := range [][]api.Field{with(":authority", ""), append(with(":authority", ""), fields("host", "")...), append(with(":authority", ""), fields("host", "a.b")...), append(bare, fields("host", "")...)} {
		wantError(t, api.ErrPseudo, empty)
	}
	// An empty path or scheme is told about ahead of the authority.
	wantError(t, api.ErrPseudo, append(fields(":method", "GET", ":scheme", "", ":path", "/"), fields("x", "y")...))
	wantError(t, api.ErrPseudo, append(fields(":method", "GET", ":scheme", "http", ":path", ""), fields("x", "y")...))
}

// P18.4: Fields are the others, all of them, in their order.
func TestFields(t *testing.T) {
	more := []string{"b", "2", "a", "1", "b", "1", "b", "2", "te", "trailers", "content-length", "0", "cookie", "x", "cookie", "", "expect", "100-continue", "authority", "z", "path", "y", "method", "w", "scheme", "v"}
	wantRequest(t, get(more...), gotten(0, more...))
	var withHosts []string
	for pair := range slices.Chunk(more, 2) {
		withHosts = append(withHosts, "host", "a.b", pair[0], pair[1], "host", "a.b")
	}
	wantRequest(t, get(withHosts...), gotten(0, more...))
	var many []string
	for range 3000 {
		many = append(many, "x", "y")
	}
	wantRequest(t, get(many...), gotten(-1, many...))
	r, e := check(get())
	if len(r.Fields) != 0 || e != api.OK || r.Length != -1 {
		t.Errorf("without others: %v, %d", r, e)
	}
}

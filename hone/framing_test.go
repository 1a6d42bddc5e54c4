package hone_test

import (
	"strings"
	"testing"

	"turnpike/api"
	"turnpike/hone"
)

// P20.3: a transfer-encoding, in other cases of letters.
func TestTransferEncoding(t *testing.T) {
	for _, value := range []string{"chunked", "Chunked", "CHUNKED", "cHuNkEd", "chunkeD"} {
		for _, name := range []string{"Transfer-Encoding: ", "transfer-encoding:", "TRANSFER-ENCODING:\t"} {
			want := head(200, hone.Chunked, "transfer-encoding", value)
			wantBoth(t, ok(name+value+" ")+"1\r\na\r\n0\r\n\r\n", api.OK, want, data("a"), finish())
		}
	}
	for _, value := range []string{"", "chunke", "chunkedd", "chunked,", ",chunked", "chunked, chunked", "gzip", "identity", "gzip, chunked", "chunked, gzip", "chunked;q=1", "\"chunked\"", "chun ked", "xchunked", "chun\u212aed", "chun\xe2\x84\xaaed", "\x80chunked", "c", "chunkfd", "churked"} {
		wantBoth(t, ok("Transfer-Encoding: "+value), api.ErrFraming)
		wantBoth(t, ok("Transfer-Encoding: "+value, "Transfer-Encoding: chunked"), api.ErrFraming)
		wantBoth(t, ok("Transfer-Encoding: "+value, "Content-Length: 1"), api.ErrFraming)
	}
	// Names that are only like it.
	for _, name := range []string{"transfer_encoding", "transfer-encodin", "transfer-encodings", "x-transfer-encoding"} {
		wantTold(t, ok(name+": chunked"), api.OK, closed(name, "chunked"))
		wantTold(t, ok(name+": gzip", name+": x"), api.OK, closed(name, "gzip", name, "x"))
	}
}

// P20.3: a transfer-encoding that stands beside others.
func TestTransferEncodingBesideOthers(t *testing.T) {
	const coding = "Transfer-Encoding: chunked"
	for _, list := range [][]string{
		{coding, coding}, {coding, "transfer-encoding: CHUNKED"}, {coding, coding, coding}, {coding, "a: b", coding}, {coding, "Transfer-Encoding: gzip"}, {"Transfer-Encoding: gzip", coding}, {coding, "Transfer-Encoding:"},
		{coding, "Content-Length: 0"}, {"Content-Length: 0", coding}, {"Content-Length: 5", "a: b", coding}, {coding, "a: b", "Content-Length: 5"}, {coding, "Content-Length: x"}, {"Content-Length: 1", "Content-Length: 1", coding}, {coding, "Content-Length:"},
	} {
		wantBoth(t, ok(list...)+"0\r\n\r\n", api.ErrFraming)
		life{true, 500, ok(list...), false, nil, api.ErrFraming}.want(t)
		wantBoth(t, lines("HTTP/1.1 204 ")+lines(list...)+lines(""), api.ErrFraming)
		wantBoth(t, lines("HTTP/1.1 304 ")+lines(list...)+lines(""), api.ErrFraming)
	}
	for _, line := range []string{coding, "Transfer-Encoding: gzip"} {
		for _, status := range []string{"200", "204", "304", "404", "100"} {
			wantBoth(t, lines("HTTP/1.0 "+status+" OK", line, ""), api.ErrFraming)
			life{true, 500, lines("HTTP/1.0 "+status+" ", line, ""), false, nil, api.ErrFraming}.want(t)
		}
	}
	wantBoth(t, lines("HTTP/1.1 100 ", coding, "")+chunked("0\r\n\r\n"), api.OK, inChunks(), finish())
}

// P20.3: content-lengths.
func TestContentLength(t *testing.T) {
	for _, value := range []string{"3", "03", "000000000000003", "3 ", "\t3"} {
		name := strings.Trim(value, " \t")
		for _, line := range []string{"Content-Length: ", "content-length:", "CONTENT-LENGTH: "} {
			wantBoth(t, ok(line+value)+"abc", api.OK, head(200, hone.Length, "content-length", name), data("abc"), finish())
			wantTold(t, ok(line+value)+"ab", api.OK, head(200, 1, "content-length", name), data("ab"))
		}
	}
	for _, value := range []string{"999999999999999", "100000000000000", "000000000000000", "0", "00"} {
		wantOne(t, ok("Content-Length: "+value), api.OK, head(200, hone.Length, "content-length", value))
	}
	for _, value := range []string{
		"", "x", "1x", "x1", "1 2", "1,2", "1, 1", "1,1", "-1", "+1", "-0", "+0", "0x1", "1.0", "1e3", "1_0", "_1", "a", "F", "0000000000000000", "0000000000000003", "1000000000000000", "9999999999999999", "99999999999999999999", "18446744073709551617", strings.Repeat("1", 100), "\u0663", "\x80", "3;", "\"3\"",
	} {
		wantBoth(t, ok("Content-Length: "+value)+"abc", api.ErrFraming)
		wantBoth(t, ok("Content-Length: 1", "Content-Length: "+value), api.ErrFraming)
		wantBoth(t, ok("Content-Length: "+value, "Content-Length: 1"), api.ErrFraming)
		wantBoth(t, ok("Content-Length: "+value, "Content-Length: "+value), api.ErrFraming)
		life{true, 500, ok("Content-Length: " + value), false, nil, api.ErrFraming}.want(t)
		wantBoth(t, lines("HTTP/1.0 200 ", "Content-Length: "+value, ""), api.ErrFraming)
		wantBoth(t, lines("HTTP/1.1 204 ", "Content-Length: "+value, ""), api.ErrFraming)
	}
	for _, name := range []string{"content_length", "content-lengt", "content-lengths", "x-content-length"} {
		wantTold(t, ok(name+": 3", name+": x")+"ab", api.OK, closed(name, "3", name, "x"), data("ab"))
	}
}

// P20.3: content-length twice.
func TestContentLengthTwice(t *testing.T) {
	const name = "content-length"
	for _, values := range [][]string{{"2", "2"}, {"2", "02"}, {"0002", "2"}, {"2", "2", "02"}} {
		var list []string
		var told []string
		for _, v := range values {
			list, told = append(list, "Content-Length: "+v, "a: b"), append(told, name, v, "a", "b")
		}
		wantBoth(t, ok(list...)+"hi", api.OK, head(200, hone.Length, told...), data("hi"), finish())
		life{true, 500, ok(list...) + "hi", false, []hone.Event{head(200, hone.None, told...), finish()}, api.OK}.want(t)
	}
	wantBoth(t, ok("Content-Length: 0", "Content-Length: 00"), api.OK, head(200, hone.Length, name, "0", name, "00"), finish())
	for _, values := range [][]string{{"2", "3"}, {"0", "1"}, {"1", "0"}, {"2", "2", "3"}, {"2", "3", "2"}, {"3", "2", "2"}, {"2", "20"}, {"0", "2"}, {"2", "0"}, {"999999999999999", "999999999999998"}} {
		var list []string
		for _, v := range values {
			list = append(list, "a: b", "Content-Length: "+v)
		}
		wantBoth(t, ok(list...)+"hi", api.ErrFraming)
		life{true, 500, ok(list...), false, nil, api.ErrFraming}.want(t)
		wantBoth(t, lines("HTTP/1.1 304 ")+lines(list...)+lines(""), api.ErrFraming)
	}
}

// P20.3: each framing, with head set and not, with each kind of status.
func TestFramings(t *testing.T) {
	for _, c := range []struct {
		head    bool
		status  string
		list    []string
		framing int
	}{
		{false, "200", nil, hone.Close},
		{false, "200", []string{"content-length", "0"}, hone.Length},
		{false, "200", []string{"content-length", "5"}, hone.Length},
		{false, "200", []string{"transfer-encoding", "chunked"}, hone.Chunked},
		{false, "205", nil, hone.Close},
		{false, "303", []string{"content-length", "5"}, hone.Length},
		{false, "404", []string{"transfer-encoding", "chunked"}, hone.Chunked},
		{false, "305", nil, hone.Close},
		{false, "203", nil, hone.Close},
		{false, "599", nil, hone.Close},
		{false, "204", nil, hone.None},
		{false, "204", []string{"content-length", "5"}, hone.None},
		{false, "204", []string{"transfer-encoding", "chunked"}, hone.None},
		{false, "304", nil, hone.None},
		{false, "304", []string{"content-length", "5"}, hone.None},
		{false, "304", []string{"transfer-encoding", "chunked"}, hone.None},
		{true, "200", nil, hone.None},
		{true, "200", []string{"content-length", "5"}, hone.None},
		{true, "200", []string{"content-length", "0"}, hone.None},
		{true, "200", []string{"transfer-encoding", "chunked"}, hone.None},
		{true, "204", nil, hone.None},
		{true, "404", []string{"content-length", "5"}, hone.None},
	} {
		var list []string
		status := int(c.status[0]-'0')*100 + int(c.status[1]-'0')*10 + int(c.status[2]-'0')
		for i := 0; i < len(c.list); i += 2 {
			list = append(list, c.list[i]+": "+c.list[i+1])
		}
		s := lines("HTTP/1.1 "+c.status+" ") + lines(list...) + lines("")
		events := []hone.Event{head(status, c.framing, c.list...)}
		if c.framing == hone.None || slicesEnd(c.list) == "0" {
			events = append(events, finish())
		}
		life{c.head, 500, s, false, events, api.OK}.want(t)
		e := api.OK
		if c.framing == hone.Close {
			events = append(events, finish())
		} else if len(events) == 1 {
			e = api.ErrEarly
		}
		life{c.head, 500, s, true, events, e}.want(t)
	}
}

// slicesEnd: the last of some texts, if there is one.
func slicesEnd(list []string) string {
	if len(list) == 0 {
		return ""
	}
	return list[len(list)-1]
}

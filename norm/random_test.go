package norm_test

import (
	"math/rand"
	"slices"
	"strconv"
	"strings"
	"testing"

	"turnpike/api"
	"turnpike/message"
	"turnpike/norm"
)

// chance: choices of all kinds.
type chance struct{ *rand.Rand }

// pick: one of some.
func pick[T any](c chance, list ...T) T {
	return list[c.Intn(len(list))]
}

// text: a few of some bytes.
func (c chance) text(of string) string {
	b := make([]byte, c.Intn(4))
	for i := range b {
		b[i] = of[c.Intn(len(of))]
	}
	return string(b)
}

// value: what a field may have.
func (c chance) value() string {
	if c.Intn(5) == 0 {
		return ""
	}
	return "v" + c.text("a; ,:\t\x80\xff=") + "v"
}

// requestField: a field of a request, mostly of those that are written in their own way.
func (c chance) requestField() api.Field {
	switch c.Intn(8) {
	case 0, 1, 2:
		return api.Field{Name: "cookie", Value: c.value()}
	case 3:
		return api.Field{Name: "te", Value: "trailers"}
	case 4:
		return api.Field{Name: pick(c, "expect", "expects", "tes", "cookies", "content-lengths", "via", "trailer"), Value: c.value()}
	}
	return api.Field{Name: "x" + c.text("ab-"), Value: c.value()}
}

// request: one that Check tells.
func (c chance) request(t *testing.T) message.Request {
	method := pick(c, "GET", "POST", "PUT", "PATCH", "OPTIONS", "post", "CONNECT", "M"+c.text("ABab-"))
	list := fields(":method", method, ":authority", pick(c, "a", "a.b:80", "[::1]"))
	if method != "CONNECT" {
		list = append(list, fields(":scheme", "https", ":path", "/"+c.text("a/?=%"))...)
	}
	for range c.Intn(7) {
		list = append(list, c.requestField())
	}
	if length := c.Intn(300); c.Intn(3) == 0 {
		at := slices.IndexFunc(append(list, api.Field{Name: "x"}), func(f api.Field) bool { return f.Name[0] != ':' })
		at += c.Intn(len(list) - at + 1)
		list = slices.Insert(list, at, fields("content-length", strings.Repeat("0", c.Intn(3))+strconv.Itoa(length))...)
	}
	r, e := message.Check(list, message.Limits{Count: 99, Size: 9999})
	if e != api.OK {
		t.Fatalf("Check(%q): %d", list, e)
	}
	return r
}

// P19.1, P19.2: any requests that Check tells are framed and written as the chapter's words say.
func TestHeadAgainstTheWords(t *testing.T) {
	c := chance{rand.New(rand.NewSource(19))}
	for range 100000 {
		r, body := c.request(t), c.Intn(2) == 0
		was := slices.Clone(r.Fields)
		if f, want := norm.Framing(r, body), modelFraming(r, body); f != want {
			t.Fatalf("Framing(%v, %t): %d, want %d", r, body, f, want)
		}
		b, e := norm.Head(r, body)
		want, wantE := modelHead(r, body)
		if string(b) != want || e != wantE {
			t.Fatalf("Head(%v, %t): %q, %d; want %q, %d", r, body, b, e, want, wantE)
		}
		if !slices.Equal(r.Fields, was) {
			t.Fatalf("Head changed %q into %q", was, r.Fields)
		}
	}
}

// readHead reads a head by the grammar of HTTP/1.1, with no leave for anything else.
func readHead(t *testing.T, head string) (method, path string, list []api.Field) {
	rest, whole := strings.CutSuffix(head, "\r\n\r\n")
	all := strings.Split(rest, "\r\n")
	first := strings.Split(all[0], " ")
	if !whole || len(first) != 3 || first[2] != "HTTP/1.1" {
		t.Fatalf("no head: %q", head)
	}
	for _, line := range all[1:] {
		name, value, cut := strings.Cut(line, ": ")
		if !cut || name == "" || strings.ContainsAny(name+value, "\r\n\x00") || strings.ContainsAny(name, " \t:"+capitals) {
			t.Fatalf("no field: %q", line)
		}
		list = append(list, api.Field{Name: name, Value: value})
	}
	return first[0], first[1], list
}

// P19.2: a head is read back in one way only: one host, one cookie at most, one framing at most, which says what Framing does.
func TestHeadReadBack(t *testing.T) {
	c := chance{rand.New(rand.NewSource(3))}
	for range 20000 {
		r, body := c.request(t), c.Intn(2) == 0
		b, e := norm.Head(r, body)
		if e != api.OK {
			continue
		}
		method, path, list := readHead(t, string(b))
		if method != r.Method || path != r.Path || list[0] != (api.Field{Name: "host", Value: r.Authority}) || countOf(list, "host") != 1 {
			t.Fatalf("%v: %q", r, b)
		}
		lengths, chunked := countOf(list, "content-length"), countOf(list, "transfer-encoding")
		framing := norm.Framing(r, body)
		if lengths+chunked > 1 || (lengths == 1) != (framing == norm.Length) || (chunked == 1) != (framing == norm.Chunked) {
			t.Fatalf("%v, %t: framed twice or otherwise: %q", r, body, b)
		}
		if countOf(list, "te")+countOf(list, "expect") > 0 || countOf(list, "cookie") != min(1, countOf(r.Fields, "cookie")) {
			t.Fatalf("%v: %q", r, b)
		}
	}
}

// P19.3: chunks and a last one are read back as the data.
func TestChunksReadBack(t *testing.T) {
	c := chance{rand.New(rand.NewSource(5))}
	for range 2000 {
		var data, written []byte
		for range c.Intn(4) {
			piece := make([]byte, pick(c, 0, 1, c.Intn(20), c.Intn(300), c.Intn(api.MaxData+1)))
			c.Read(piece)
			b, e := norm.Chunk(piece)
			if e != api.OK {
				t.Fatalf("Chunk of %d: %d", len(piece), e)
			}
			data, written = append(data, piece...), append(written, b...)
		}
		written = append(written, norm.Last(nil)...)
		if got, whole := readChunks(string(written)); got != string(data) || !whole {
			t.Fatalf("%d bytes, %t; want %d", len(got), whole, len(data))
		}
	}
}

// readChunks reads chunks up to the last one, behind which nothing may stand.
func readChunks(text string) (data string, whole bool) {
	for {
		digits, rest, cut := strings.Cut(text, "\r\n")
		n, err := strconv.ParseUint(digits, 16, 31)
		if !cut || err != nil || strings.ToLower(digits) != digits || n > 0 && digits[0] == '0' || len(rest) < int(n)+2 {
			return data, false
		}
		if rest[n:n+2] != "\r\n" {
			return data, false
		}
		data, text = data+rest[:n], rest[n+2:]
		if n == 0 {
			return data, text == "" && digits == "0"
		}
	}
}

// P19.3: any trailers are written line by line.
func TestLastAgainstTheWords(t *testing.T) {
	c := chance{rand.New(rand.NewSource(7))}
	for range 5000 {
		var trailers []api.Field
		want := "0\r\n"
		for range c.Intn(5) {
			f := c.requestField()
			trailers, want = append(trailers, f), want+f.Name+": "+f.Value+"\r\n"
		}
		if b := norm.Last(trailers); string(b) != want+"\r\n" {
			t.Fatalf("Last(%q): %q", trailers, b)
		}
	}
}

// responseField: a field of a response, mostly of those that are left out or that name such.
func (c chance) responseField() api.Field {
	name := pick(c, "a", "b", "ab", "x-a", "via", "keep-alive", "upgrade", "proxy-connection", "transfer-encoding", "te", "k"+c.text("\xff\x80Kk"))
	if c.Intn(4) > 0 {
		return api.Field{Name: pick(c, casings(name)...), Value: c.value()}
	}
	var value string
	for range c.Intn(4) {
		value += c.text(" \t,") + pick(c, casings(name)...) + c.text(" \t,")
	}
	return api.Field{Name: pick(c, casings("connection")...), Value: value}
}

// P19.4: any responses are told as the chapter's words say.
func TestResponseAgainstTheWords(t *testing.T) {
	c := chance{rand.New(rand.NewSource(11))}
	for range 50000 {
		var given []api.Field
		for range c.Intn(8) {
			given = append(given, c.responseField())
		}
		status := 100 + c.Intn(500)
		if c.Intn(20) == 0 {
			status = c.Intn(1200) - 300
		}
		was := slices.Clone(given)
		list, e := norm.Response(status, given)
		want, wantE := modelResponse(status, given)
		if !slices.Equal(list, want) || e != wantE {
			t.Fatalf("Response(%d, %q): %q, %d; want %q, %d", status, given, list, e, want, wantE)
		}
		if !slices.Equal(given, was) {
			t.Fatalf("Response changed %q into %q", was, given)
		}
	}
}

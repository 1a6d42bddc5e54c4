package norm

import (
	"bytes"
	"strconv"
	"strings"

	"turnpike/api"
	"turnpike/message"
)

// The names of fields that are read or written here.
const (
	statusName = ":status"
	lengthName = "content-length"
	teName     = "te"
	expectName = "expect"
	cookieName = "cookie"
	viaName    = "via"
)

// writer: what is written for a server, line by line.
type writer struct {
	bytes.Buffer
}

// line writes the pieces behind one another as one line.
func (w *writer) line(pieces ...string) {
	for _, p := range pieces {
		w.WriteString(p)
	}
	w.WriteString(lineEnd)
}

// field writes a field's line.
func (w *writer) field(name, value string) {
	w.line(name, ": ", value)
}

// requestFields writes the fields that go on to the server.
func (w *writer) requestFields(fields []api.Field) {
	cookies := valuesOf(fields, cookieName)
	joined := false
next:
	for _, f := range fields {
		switch f.Name {
		case lengthName, teName, expectName:
			continue next
		case cookieName:
			// HTTP/1.1 takes one cookie field alone, so the first tells of all.
			if joined {
				continue next
			}
			joined = true
			f.Value = strings.Join(cookies, "; ")
		}
		w.field(f.Name, f.Value)
	}
}

// framing writes how long the body is, or that it comes in chunks.
func (w *writer) framing(r message.Request, body bool) {
	switch Framing(r, body) {
	case Length: // also where no length was told, and there is no body
		w.field(lengthName, decimal(max(r.Length, 0)))
	case Chunked:
		w.field("transfer-encoding", "chunked")
	}
}

// hasLength: whether the request tells how long its body is.
func hasLength(r message.Request) bool { return r.Length >= 0 }

// valuesOf are the values of all fields of a name, in order.
func valuesOf(fields []api.Field, name string) []string {
	var values []string
	for _, f := range fields {
		if f.Name == name {
			values = append(values, f.Value)
		}
	}
	return values
}

// decimal is a number's text.
func decimal(n int) string { return strconv.Itoa(n) }

// hexadecimal is the text of a number that isn't below 0.
func hexadecimal(n int) string { return strconv.FormatInt(int64(n), 16) }

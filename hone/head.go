package hone

import (
	"strings"

	"turnpike/api"
)

// The names of fields that are read here.
const (
	lengthName     = "content-length"
	codingName     = "transfer-encoding"
	connectionName = "connection"
)

// noLength: the length of a head that tells none.
const noLength = -1

// mostLengthDigits: so many digits a length may have.
const mostLengthDigits = 15

// The statuses that a response may have, and the one among them that would make the connection another thing than HTTP.
const (
	leastStatus = 100
	mostStatus  = 599
	switching   = 101
)

// head is what a response's head says.
type head struct {
	current bool // the version is 1.1
	status  int
	fields  []api.Field
	chunked bool
	length  int
}

// headOf reads a head's lines.
func headOf(lines string) (h head, e api.Errno) {
	line, rest, more := strings.Cut(lines, lineEnd)
	h, ok := statusLine(line)
	if !ok {
		return head{}, api.ErrLine
	}
	if h.status < leastStatus || h.status > mostStatus || h.status == switching {
		return head{}, api.ErrStatus
	}
	if more {
		h.fields, e = fieldsOf(rest)
	}
	if e == api.OK {
		e = h.frame()
	}
	return h, e
}

// statusLine reads `HTTP/1.`, `0` or `1`, a blank, three digits, a blank, and any text.
func statusLine(line string) (h head, ok bool) {
	rest, ok := strings.CutPrefix(line, "HTTP/1.")
	if !ok || len(rest) < len("1 200 ") {
		return head{}, false
	}
	version, digits, reason := rest[:2], rest[2:5], rest[5:]
	if version != "0 " && version != "1 " || reason[0] != ' ' || !isText(reason) {
		return head{}, false
	}
	status, ok := number(digits, 10, len(digits))
	return head{current: version == "1 ", status: status, length: noLength}, ok
}

// frame takes from the fields how the body is framed, if they say it in one way.
func (h *head) frame() api.Errno {
	for _, f := range h.fields {
		switch f.Name {
		case codingName:
			if h.chunked || !h.current || small(f.Value) != "chunked" {
				return api.ErrFraming
			}
			h.chunked = true
		case lengthName:
			n, ok := number(f.Value, 10, mostLengthDigits)
			if !ok || h.length != noLength && h.length != n {
				return api.ErrFraming
			}
			h.length = n
		}
	}
	if h.chunked && h.length != noLength {
		return api.ErrFraming
	}
	return api.OK
}

// trailersOf reads trailers' lines.
func trailersOf(lines string) ([]api.Field, api.Errno) {
	fields, e := fieldsOf(lines)
	for _, f := range fields {
		if f.Name == lengthName || f.Name == codingName { // they would come too late
			return nil, api.ErrFraming
		}
	}
	return fields, e
}

// fieldsOf reads lines that are fields.
func fieldsOf(lines string) ([]api.Field, api.Errno) {
	var fields []api.Field
	for line := range strings.SplitSeq(lines, lineEnd) {
		name, value, ok := strings.Cut(line, ":")
		if !ok || !isName(name) {
			return nil, api.ErrName
		}
		value = strings.Trim(value, " \t")
		if !isText(value) {
			return nil, api.ErrValue
		}
		fields = append(fields, api.Field{Name: small(name), Value: value})
	}
	return fields, api.OK
}

// closes: whether a connection field names close.
func closes(fields []api.Field) bool {
	for _, f := range fields {
		if f.Name != connectionName {
			continue
		}
		for piece := range strings.SplitSeq(f.Value, ",") {
			if small(strings.Trim(piece, " \t")) == "close" {
				return true
			}
		}
	}
	return false
}

package norm_test

import (
	"strconv"
	"strings"

	"turnpike/api"
	"turnpike/message"
	"turnpike/norm"
)

// The model says what the chapter's words say, each promise on its own.

const (
	capitals = "ABCDEFGHIJKLMNOPQRSTUVWXYZ"
	smalls   = "abcdefghijklmnopqrstuvwxyz"
)

// modelFraming: P19.1.
func modelFraming(r message.Request, body bool) int {
	if r.Length != -1 {
		return norm.Length
	}
	if body {
		return norm.Chunked
	}
	if r.Method == "POST" || r.Method == "PUT" || r.Method == "PATCH" {
		return norm.Length
	}
	return norm.None
}

// modelHead: P19.2.
func modelHead(r message.Request, body bool) (string, api.Errno) {
	if r.Method == "CONNECT" {
		return "", api.ErrKind
	}
	text := r.Method + " " + r.Path + " HTTP/1.1\r\nhost: " + r.Authority + "\r\n"
	for i, f := range r.Fields {
		if f.Name == "content-length" || f.Name == "te" || f.Name == "expect" || f.Name == "cookie" && countOf(r.Fields[:i], "cookie") > 0 {
			continue
		}
		text += f.Name + ": " + f.Value
		if f.Name == "cookie" {
			for _, g := range r.Fields[i+1:] {
				if g.Name == "cookie" {
					text += "; " + g.Value
				}
			}
		}
		text += "\r\n"
	}
	switch modelFraming(r, body) {
	case norm.Chunked:
		text += "transfer-encoding: chunked\r\n"
	case norm.Length:
		if r.Length == -1 {
			text += "content-length: 0\r\n"
		} else {
			text += "content-length: " + strconv.Itoa(r.Length) + "\r\n"
		}
	}
	return text + "via: 3 turnpike\r\n\r\n", api.OK
}

// countOf: how many fields have a name.
func countOf(list []api.Field, name string) int {
	n := 0
	for _, f := range list {
		if f.Name == name {
			n++
		}
	}
	return n
}

// inSmall: a name with its capital letters made small.
func inSmall(name string) string {
	for i := range capitals {
		name = strings.ReplaceAll(name, capitals[i:i+1], smalls[i:i+1])
	}
	return name
}

// isNamed: whether a connection field names one, of a name in small letters.
func isNamed(list []api.Field, name string) bool {
	for _, f := range list {
		if inSmall(f.Name) != "connection" {
			continue
		}
		for _, piece := range strings.Split(f.Value, ",") {
			for strings.HasPrefix(piece, " ") || strings.HasPrefix(piece, "\t") {
				piece = piece[1:]
			}
			for strings.HasSuffix(piece, " ") || strings.HasSuffix(piece, "\t") {
				piece = piece[:len(piece)-1]
			}
			if inSmall(piece) == name {
				return true
			}
		}
	}
	return false
}

// modelResponse: P19.4.
func modelResponse(status int, given []api.Field) ([]api.Field, api.Errno) {
	if status < 100 || status > 599 {
		return nil, api.ErrStatus
	}
	told := fields(":status", strconv.Itoa(status))
	for _, f := range given {
		name := inSmall(f.Name)
		hop := false
		for _, other := range hops {
			hop = hop || name == other
		}
		if !hop && !isNamed(given, name) {
			told = append(told, fields(name, f.Value)...)
		}
	}
	return append(told, fields("via", "1.1 turnpike")...), api.OK
}

package norm

import (
	"iter"
	"strings"

	"turnpike/api"
)

// connectionName is the field that names others that are for one link alone.
const connectionName = "connection"

// hopNames are the fields that are for one link alone, whoever names them.
var hopNames = [...]string{connectionName, "keep-alive", "proxy-connection", "transfer-encoding", "upgrade"}

// endToEnd are the fields that are for more than one link, their names in small letters.
func endToEnd(fields []api.Field) []api.Field {
	named := namedFields(fields)
	var out []api.Field
next:
	for _, f := range fields {
		name := small(f.Name)
		for _, hop := range hopNames {
			if name == hop {
				continue next
			}
		}
		if _, gone := named[name]; gone {
			continue next
		}
		out = append(out, api.Field{Name: name, Value: f.Value})
	}
	return out
}

// namedFields are the names, in small letters, that connection fields tell. They are known ahead of all fields, since a connection field may stand behind one that it names.
func namedFields(fields []api.Field) map[string]struct{} {
	named := map[string]struct{}{}
	for _, f := range fields {
		if small(f.Name) != connectionName {
			continue
		}
		for name := range names(f.Value) {
			named[name] = struct{}{}
		}
	}
	return named
}

// names cuts a connection field's value into names in small letters.
func names(value string) iter.Seq[string] {
	return func(yield func(string) bool) {
		for piece := range strings.SplitSeq(value, ",") {
			if !yield(small(strings.Trim(piece, " \t"))) {
				return
			}
		}
	}
}

// small is a name with its capital letters made small, byte by byte: bytes that are no letters stay, whatever rune they are part of.
func small(name string) string {
	b := []byte(name)
	for i, c := range b {
		if c >= 'A' && c <= 'Z' {
			b[i] = c - 'A' + 'a'
		}
	}
	return string(b)
}

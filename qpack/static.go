package qpack

import (
	"iter"
	"strings"

	"turnpike/api"
)

// staticText: the static table, a line an entry, the value behind a blank.
const staticText = `:authority
:path /
content-length 0
date
etag
last-modified
location
set-cookie
:method CONNECT
:method DELETE
:method GET
:method HEAD
:method OPTIONS
:method POST
:method PUT
:scheme http
:scheme https
:status 103
:status 200
:status 304
:status 404
:status 503
accept */*
accept-encoding gzip
cache-control no-cache
content-type text/html
content-type application/json
content-type text/plain
content-encoding gzip
vary accept-encoding
:status 100
:status 204
:status 400
:status 500
:status 502
:status 504
server
user-agent
x-forwarded-for
via
`

// Static: a static entry.
func Static(n int) (f api.Field, ok bool) {
	for i, f := range staticEntries() {
		if i == n {
			return f, true
		}
	}
	return api.Field{}, false
}

// staticField: the first static entry that has a field's name and value.
func staticField(f api.Field) (n int, ok bool) {
	for i, has := range staticEntries() {
		if has == f {
			return i, true
		}
	}
	return 0, false
}

// staticName: the first static entry that has a name.
func staticName(name string) (n int, ok bool) {
	for i, has := range staticEntries() {
		if has.Name == name {
			return i, true
		}
	}
	return 0, false
}

// staticEntries goes through the static table line by line.
func staticEntries() iter.Seq2[int, api.Field] {
	return func(yield func(int, api.Field) bool) {
		rest := staticText
		for n := 0; rest != ""; n++ {
			var line string
			line, rest, _ = strings.Cut(rest, "\n")
			name, value, _ := strings.Cut(line, " ")
			if !yield(n, api.Field{Name: name, Value: value}) {
				return
			}
		}
	}
}

package qpack_test

import (
	"math"
	"testing"

	"turnpike/api"
	"turnpike/qpack"
)

// staticTable: the chapter's entries.
func staticTable() []api.Field {
	return []api.Field{
		0: fd(":authority", ""), 1: fd(":path", "/"), 2: fd("content-length", "0"), 3: fd("date", ""), 4: fd("etag", ""),
		5: fd("last-modified", ""), 6: fd("location", ""), 7: fd("set-cookie", ""), 8: fd(":method", "CONNECT"), 9: fd(":method", "DELETE"),
		10: fd(":method", "GET"), 11: fd(":method", "HEAD"), 12: fd(":method", "OPTIONS"), 13: fd(":method", "POST"), 14: fd(":method", "PUT"),
		15: fd(":scheme", "http"), 16: fd(":scheme", "https"), 17: fd(":status", "103"), 18: fd(":status", "200"), 19: fd(":status", "304"),
		20: fd(":status", "404"), 21: fd(":status", "503"), 22: fd("accept", "*/*"), 23: fd("accept-encoding", "gzip"), 24: fd("cache-control", "no-cache"),
		25: fd("content-type", "text/html"), 26: fd("content-type", "application/json"), 27: fd("content-type", "text/plain"), 28: fd("content-encoding", "gzip"), 29: fd("vary", "accept-encoding"),
		30: fd(":status", "100"), 31: fd(":status", "204"), 32: fd(":status", "400"), 33: fd(":status", "500"), 34: fd(":status", "502"),
		35: fd(":status", "504"), 36: fd("server", ""), 37: fd("user-agent", ""), 38: fd("x-forwarded-for", ""), 39: fd("via", ""),
	}
}

// P16.1: each static entry.
func TestStaticEntries(t *testing.T) {
	all := staticTable()
	if len(all) != 40 {
		t.Fatalf("%d entries", len(all))
	}
	for n, want := range all {
		if f, ok := qpack.Static(n); f != want || !ok {
			t.Errorf("Static(%d): %v, %t; want %v", n, f, ok, want)
		}
	}
}

// P16.1: numbers that no static entry has.
func TestNoStaticEntries(t *testing.T) {
	for _, n := range []int{-1, -2, -39, -40, math.MinInt, 40, 41, 63, 64, 99, 256, 256 + 10, 1 << 32, 1<<32 + 10, api.MaxNum, math.MaxInt} {
		if f, ok := qpack.Static(n); f != (api.Field{}) || ok {
			t.Errorf("Static(%d): %v, %t", n, f, ok)
		}
	}
}

// P16.3, P16.7: both sides name static entries by the same numbers.
func TestStaticLines(t *testing.T) {
	x, d := encoder(t, 0, 0), decoder(t, 0, 0, 1000)
	for n, f := range staticTable() {
		line := []byte{0, 0, 0xc0 + byte(n)}
		wantEncode(t, x, 0, fds(f), line)
		wantFields(t, d, 0, line, fds(f))
	}
	wantOut(t, x, nil)
	wantOut(t, d, nil)
}

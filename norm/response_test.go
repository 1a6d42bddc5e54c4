package norm_test

import (
	"math"
	"slices"
	"strings"
	"testing"

	"turnpike/api"
	"turnpike/norm"
)

// hops are the names of fields that are for one link alone.
var hops = []string{"connection", "keep-alive", "proxy-connection", "transfer-encoding", "upgrade"}

// P19.4: the chapter's example.
func TestResponseExample(t *testing.T) {
	list, e := norm.Response(200, fields("Content-Type", "text/plain", "Connection", "x-a", "X-A", "1"))
	if want := fields(":status", "200", "content-type", "text/plain", "via", "1.1 turnpike"); !slices.Equal(list, want) || e != api.OK {
		t.Errorf("%q, %d", list, e)
	}
}

// P19.4: a status is from 100 to 599, and is told with three digits.
func TestResponseStatus(t *testing.T) {
	for status, text := range map[int]string{100: "100", 101: "101", 199: "199", 200: "200", 204: "204", 304: "304", 404: "404", 500: "500", 598: "598", 599: "599"} {
		list, e := norm.Response(status, fields("a", "b"))
		if want := fields(":status", text, "a", "b", "via", "1.1 turnpike"); !slices.Equal(list, want) || e != api.OK {
			t.Errorf("%d: %q, %d", status, list, e)
		}
	}
	for _, status := range []int{math.MinInt, -200, -100, -1, 0, 1, 20, 99, 600, 601, 999, 1000, 20000, math.MaxInt} {
		for _, given := range [][]api.Field{nil, fields("a", "b"), fields("connection", "a", "a", "b")} {
			if list, e := norm.Response(status, given); len(list) != 0 || e != api.ErrStatus {
				t.Errorf("%d: %q, %d", status, list, e)
			}
		}
	}
	for status := -300; status < 1300; status++ {
		list, e := norm.Response(status, nil)
		if right := status >= 100 && status <= 599; right != (e == api.OK) || right != (len(list) == 2) {
			t.Errorf("%d: %q, %d", status, list, e)
		}
	}
}

// P19.4: all other fields are told in their order, their values as they are, and via last.
func TestResponseFields(t *testing.T) {
	for _, given := range [][]api.Field{nil, {}} {
		wantTold(t, given)
	}
	wantTold(t, fields("b", "2", "a", "1", "b", "3"), "b", "2", "a", "1", "b", "3")
	wantTold(t, fields("via", "1.0 other", "x", "Y Z"), "via", "1.0 other", "x", "Y Z")
	wantTold(t, fields("x", "", "x", "", "y", "\t a, B\x80ä "), "x", "", "x", "", "y", "\t a, B\x80ä ")
	wantTold(t, fields("content-length", "05", "te", "gzip", "trailer", "x", "set-cookie", "a", "set-cookie", "b", "expect", "c", "host", "d"),
		"content-length", "05", "te", "gzip", "trailer", "x", "set-cookie", "a", "set-cookie", "b", "expect", "c", "host", "d")
}

// P19.4: capital letters of names are made small, those of values not, and no other bytes are changed.
func TestResponseNames(t *testing.T) {
	wantTold(t, fields("Content-Type", "Text/Plain", "ETAG", "ABC", "x-Y-z", "Z"), "content-type", "Text/Plain", "etag", "ABC", "x-y-z", "Z")
	wantTold(t, fields("ABCDEFGHIJKLMNOPQRSTUVWXYZ", "v", "abcdefghijklmnopqrstuvwxyz", "w"), "abcdefghijklmnopqrstuvwxyz", "v", "abcdefghijklmnopqrstuvwxyz", "w")
	for n := range 256 {
		name := "x" + string([]byte{byte(n)}) + "y"
		if n >= 'A' && n <= 'Z' {
			wantTold(t, fields(name, "v"), "x"+string([]byte{byte(n - 'A' + 'a')})+"y", "v")
		} else {
			wantTold(t, fields(name, "v"), name, "v")
		}
	}
	for _, name := range []string{"\u00c4", "\u212a", "x\xffy", "\u0130", "\ufffd"} {
		wantTold(t, fields(name, "v"), name, "v")
	}
	wantTold(t, fields("\u212aeep-alive", "v"), "\u212aeep-alive", "v")
}

// P19.4: fields that are for one link alone are left out, in any case of letters, at each place.
func TestResponseHopFields(t *testing.T) {
	for _, hop := range hops {
		for _, name := range casings(hop) {
			for _, value := range []string{"", "v", "chunked", "close"} {
				for at := 0; at <= 4; at += 2 {
					wantTold(t, fields(slices.Insert([]string{"A", "1", "b", "2"}, at, name, value)...), "a", "1", "b", "2")
				}
				wantTold(t, fields(name, value))
				wantTold(t, fields(name, value, "x", "y", name, value), "x", "y")
			}
		}
		for _, other := range []string{hop + "s", hop[:len(hop)-1], "x-" + hop, hop[1:], hop + "-", hop + " "} {
			wantTold(t, fields(other, "close", "close", "v"), other, "close", "close", "v")
		}
	}
	wantTold(t, fields("Connection", "", "Keep-Alive", "", "Proxy-Connection", "", "Transfer-Encoding", "", "Upgrade", ""))
}

// P19.4: the fields that a connection field names are left out, wherever they stand and in any case of letters.
func TestResponseNamedFields(t *testing.T) {
	for _, c := range []struct {
		value string
		gone  []string
	}{
		{"", nil}, {"close", nil}, {"x", nil}, {",", nil}, {" , ,\t,", nil}, {"aa", nil}, {"a-b", nil}, {"a b", nil}, {"a;b", nil}, {"\"a\"", nil}, {"a=b", nil},
		{"a", []string{"a"}}, {"A", []string{"a"}}, {"b", []string{"b"}}, {"close, a", []string{"a"}}, {"a, close", []string{"a"}},
		{"a,b", []string{"a", "b"}}, {"a, b", []string{"a", "b"}}, {"B ,A", []string{"a", "b"}}, {"a,b,c", []string{"a", "b", "c"}}, {"c,a", []string{"a", "c"}},
		{" a", []string{"a"}}, {"a ", []string{"a"}}, {"\ta\t", []string{"a"}}, {" \t a\t \t", []string{"a"}}, {"\t b \t,\t \tc", []string{"b", "c"}},
		{",a", []string{"a"}}, {"a,", []string{"a"}}, {",,a,,b,,", []string{"a", "b"}}, {" , a , , b , ", []string{"a", "b"}},
		{"connection", nil}, {"connection, a", []string{"a"}}, {"a, Connection", []string{"a"}}, {"a, a", []string{"a"}}, {"keep-alive, upgrade, c", []string{"c"}},
		{"\na", nil}, {"a\r", nil}, {"\u00a0a", nil}, {"a\x00", nil}, {"a\v", nil},
	} {
		for _, name := range casings("connection") {
			for at := 0; at <= 6; at += 2 {
				given := slices.Insert([]string{"A", "1", "b", "2", "C", "3"}, at, name, c.value)
				var want []string
				for pair := range slices.Chunk([]string{"a", "1", "b", "2", "c", "3"}, 2) {
					if !slices.Contains(c.gone, pair[0]) {
						want = append(want, pair...)
					}
				}
				wantTold(t, fields(given...), want...)
			}
		}
	}
}

// P19.4: names in other cases of letters are the same, on both sides.
func TestResponseNamedInAnyCase(t *testing.T) {
	for _, named := range casings("x-name") {
		for _, name := range casings("x-name") {
			wantTold(t, fields("connection", named, name, "1", "y", "2", name, "3"), "y", "2")
			wantTold(t, fields(name, "1", "y", "2", "connection", "z, "+named), "y", "2")
		}
	}
	wantTold(t, fields("connection", "\u212a, \u00c4, \xff", "k", "1", "\u00e4", "2", "\ufffd", "3"), "k", "1", "\u00e4", "2", "\ufffd", "3")
	wantTold(t, fields("connection", "\u00c4, \xff", "\u00c4", "1", "\xff", "2", "\xfe", "3"), "\xfe", "3")
}

// P19.4: two connection fields name each their own, ahead of those or behind them.
func TestResponseTwoConnectionFields(t *testing.T) {
	wantTold(t, fields("connection", "a", "Connection", "b", "a", "1", "b", "2", "c", "3"), "c", "3")
	wantTold(t, fields("a", "1", "b", "2", "c", "3", "CONNECTION", "b", "connection", "a"), "c", "3")
	wantTold(t, fields("b", "1", "connection", "a", "c", "2", "connection", "b", "a", "3"), "c", "2")
	wantTold(t, fields("connection", "", "connection", "a", "a", "1", "b", "2"), "b", "2")
	wantTold(t, fields("connection", "a", "connection", "", "a", "1", "b", "2"), "b", "2")
}

// P19.4: no other field names any, and those alone are left out that are named.
func TestResponseNamesInOtherFields(t *testing.T) {
	for _, other := range []string{"keep-alive", "proxy-connection", "transfer-encoding", "upgrade"} {
		wantTold(t, fields(other, "a", "a", "1"), "a", "1")
	}
	wantTold(t, fields("connections", "a", "x-connection", "a", "a", "1"), "connections", "a", "x-connection", "a", "a", "1")
	wantTold(t, fields("keep-alive", "connection", "trailer", "a", "a", "1"), "trailer", "a", "a", "1")
}

// P19.4: a connection field may name any field that came, but neither :status nor the via that is told here.
func TestResponseNamedOfItsOwn(t *testing.T) {
	wantTold(t, fields("connection", "via, :status, content-length", "via", "1.0 other", "Content-Length", "5", "x", "y"), "x", "y")
}

// P19.4: many fields and many names.
func TestResponseOfMany(t *testing.T) {
	const n = 20000
	given := fields("connection", strings.Repeat("x,", n)+"y")
	want := fields(":status", "200")
	for i := range n {
		name := "F" + strings.Repeat("a", i%9)
		given = append(given, fields(name, "v", "X", "w")...)
		want = append(want, fields(strings.ToLower(name), "v")...)
	}
	want = append(want, fields("via", "1.1 turnpike")...)
	if list, e := norm.Response(200, append(given, fields("y", "z")...)); !slices.Equal(list, want) || e != api.OK {
		t.Errorf("%d fields, %d; want %d", len(list), e, len(want))
	}
}

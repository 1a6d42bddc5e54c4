package message_test

import (
	"bytes"
	"strings"
	"testing"

	"turnpike/api"
)

// tokens: all token bytes, written out.
const tokens = "abcdefghijklmnopqrstuvwxyzABCDEFGHIJKLMNOPQRSTUVWXYZ0123456789!#$%&'*+-.^_|~\x60"

// capitals: those that no name has.
const capitals = "ABCDEFGHIJKLMNOPQRSTUVWXYZ"

// has: whether a byte is one of some.
func has(list string, b byte) bool { return bytes.IndexByte([]byte(list), b) >= 0 }

// P18.1, P18.5: a name is one token byte or more, none a capital letter: each byte at each place of a name.
func TestNames(t *testing.T) {
	wantBoth(t, api.ErrName, "", "")
	wantBoth(t, api.ErrName, "", "value")
	for n := range 256 {
		b := string([]byte{byte(n)})
		right := has(tokens, byte(n)) && !has(capitals, byte(n))
		for _, name := range []string{b, b + "b", "a" + b + "b", "a" + b} {
			if name[0] == ':' {
				wantBoth(t, api.ErrPseudo, name, "v")
				continue
			}
			wantBoth(t, okIf(right, api.ErrName), name, "v")
		}
	}
	for _, name := range []string{"Accept", "aCcept", "accepT", "a b", "ä", "a\u212a", "\ufffd", "a:", "a:path", "a\x00", strings.Repeat("a", 999) + "A"} {
		wantBoth(t, api.ErrName, name, "v")
	}
	wantBoth(t, api.OK, tokens[:26]+tokens[52:], "v")
	wantBoth(t, api.OK, strings.Repeat("a", 9999), "v")
}

// P18.1, P18.5: a value has no byte below 20 but 09, not 7f, and no blank or tab at its ends: each byte at each place of a value.
func TestValues(t *testing.T) {
	for n := range 256 {
		b := string([]byte{byte(n)})
		inside := n == 9 || n >= 0x20 && n != 0x7f
		atEnd := inside && n != 9 && n != 0x20
		for _, value := range []string{b, b + "b", "a" + b, b + b} {
			wantBoth(t, okIf(atEnd, api.ErrValue), "x", value)
		}
		for _, value := range []string{"a" + b + "b", "a" + b + b + "b"} {
			wantBoth(t, okIf(inside, api.ErrValue), "x", value)
		}
	}
	for _, value := range []string{"", "a  b", "a \t b", "\x80", "ä \xff", "\u00a0x\u00a0", "\u2028", "\ufffd", strings.Repeat("v", 9999)} {
		wantBoth(t, api.OK, "x", value)
	}
	for _, value := range []string{" ", "\t", "  ", " \t", "a ", " a", "a\t", "\ta", "a\r\nb", "a\x00", "a\n", strings.Repeat("v", 999) + " "} {
		wantBoth(t, api.ErrValue, "x", value)
	}
}

// P18.1: the values of pseudo fields and of all others are held to the same.
func TestValuesOfPseudoFields(t *testing.T) {
	for _, name := range []string{":method", ":scheme", ":authority", ":path"} {
		for _, value := range []string{" GET", "GET ", "/ ", "\t", "a\x7fb", "a\x00", "\n"} {
			wantError(t, api.ErrValue, with(name, value))
		}
	}
	for _, name := range []string{"host", "te", "connection", "content-length"} {
		wantError(t, api.ErrValue, get(name, " 5"))
		wantTrailers(t, api.ErrValue, fields(name, "5\t"))
	}
}

// P18.1, P18.5: hop fields, by their names alone.
func TestHopFields(t *testing.T) {
	for _, name := range []string{"connection", "keep-alive", "proxy-connection", "transfer-encoding", "upgrade"} {
		for _, value := range []string{"", "close", "chunked", "trailers", name} {
			wantBoth(t, api.ErrConnField, name, value)
		}
		wantBoth(t, api.ErrName, strings.ToUpper(name), "close")
		wantBoth(t, api.ErrName, strings.ToUpper(name[:1])+name[1:], "close")
		for _, other := range []string{name[1:], name[:len(name)-1], name + "s", "x-" + name, name + "-"} {
			wantBoth(t, api.OK, other, "close")
		}
	}
	for _, name := range []string{"proxy-authorization", "trailer", "via", "expect", "cookie", "t", "tee", "keepalive"} {
		wantBoth(t, api.OK, name, "x")
	}
}

// P18.1, P18.5: te with trailers is no hop field, but nothing for trailers; with any other value it is one.
func TestTe(t *testing.T) {
	wantRequest(t, get("te", "trailers"), gotten(-1, "te", "trailers"))
	wantRequest(t, get("te", "trailers", "te", "trailers"), gotten(-1, "te", "trailers", "te", "trailers"))
	wantTrailers(t, api.ErrConnField, fields("te", "trailers"))
	for _, value := range []string{"", "gzip", "Trailers", "TRAILERS", "trailer", "trailerss", "trailers, gzip", "gzip, trailers", "trailers;q=1", "trailers,"} {
		wantBoth(t, api.ErrConnField, "te", value)
		wantError(t, api.ErrConnField, get("te", "trailers", "te", value))
	}
	wantBoth(t, api.ErrName, "TE", "trailers")
	wantBoth(t, api.ErrName, "Te", "gzip")
}

// P18.1, P18.4: a length is one to fifteen digits, and nothing else.
func TestLengths(t *testing.T) {
	for value, n := range map[string]int{
		"0": 0, "5": 5, "05": 5, "00": 0, "10": 10, "000000000000000": 0, "000000000000001": 1, "123456789": 123456789,
		"999999999999999": 999999999999999, "100000000000000": 100000000000000, "99999999999999": 99999999999999, "9223372036854": 9223372036854,
	} {
		wantRequest(t, get("content-length", value), gotten(n, "content-length", value))
	}
	for _, value := range []string{
		"", "1000000000000000", "0000000000000000", "0000000000000001", "9223372036854775807", "18446744073709551621", strings.Repeat("1", 400),
		"+5", "-5", "-0", "5-", "5+", "5 5", "5\t5", "1_0", "0x5", "5a", "a5", "a", "1e2", "1.0", "5,5", "5, 5", ".", "\u0665", "5\xff", "\x80", "\uff15",
	} {
		wantError(t, api.ErrTotal, get("content-length", value))
	}
	for n := range 256 {
		b := string([]byte{byte(n)})
		for _, value := range []string{b, b + "1", "1" + b, "1" + b + "1"} {
			want := api.ErrTotal
			switch {
			case n >= '0' && n <= '9':
				want = api.OK
			case n < 0x20 && n != 9, n == 0x7f, (n == 9 || n == 0x20) && value != "1"+b+"1":
				want = api.ErrValue
			}
			if _, e := check(get("content-length", value)); e != want {
				t.Errorf("content-length %q: %d, want %d", value, e, want)
			}
		}
	}
}

// P18.1: content-lengths are held against those ahead by their numbers.
func TestLengthsTwice(t *testing.T) {
	wantRequest(t, get("content-length", "5", "content-length", "5"), gotten(5, "content-length", "5", "content-length", "5"))
	wantRequest(t, get("content-length", "5", "content-length", "05"), gotten(5, "content-length", "5", "content-length", "05"))
	wantRequest(t, get("content-length", "0", "x", "y", "content-length", "000"), gotten(0, "content-length", "0", "x", "y", "content-length", "000"))
	wantRequest(t, get("content-length", "5", "content-length", "05", "content-length", "000000000000005"), gotten(5, "content-length", "5", "content-length", "05", "content-length", "000000000000005"))
	for _, pair := range [][]string{{"5", "6"}, {"6", "5"}, {"0", "1"}, {"1", "0"}, {"5", "50"}, {"05", "50"}, {"5", ""}, {"", "5"}, {"5", "+5"}, {"5", "0000000000000005"}, {"0", "-0"}} {
		wantError(t, api.ErrTotal, get("content-length", pair[0], "content-length", pair[1]))
		wantError(t, api.ErrTotal, get("content-length", pair[0], "x", "y", "content-length", pair[1]))
	}
	wantError(t, api.ErrTotal, get("content-length", "5", "content-length", "5", "content-length", "6"))
	wantError(t, api.ErrTotal, get("content-length", "5", "content-length", "6", "content-length", "5"))
	wantRequest(t, get("content-lengths", "x", "x-content-length", "y"), gotten(-1, "content-lengths", "x", "x-content-length", "y"))
}

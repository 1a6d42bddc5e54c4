package hone_test

import (
	"strings"
	"testing"

	"turnpike/api"
	"turnpike/hone"
)

// closed: a head of a body that goes on until the end.
func closed(texts ...string) hone.Event { return head(200, hone.Close, texts...) }

// P20.3: fields, right ones.
func TestFields(t *testing.T) {
	for line, want := range map[string][2]string{
		"A: b":                          {"a", "b"},
		"a:b":                           {"a", "b"},
		"A:":                            {"a", ""},
		"A: ":                           {"a", ""},
		"A: \t \t":                      {"a", ""},
		"A:\tb":                         {"a", "b"},
		"A: \t b \t ":                   {"a", "b"},
		"A: b c\td":                     {"a", "b c\td"},
		"A: b:c: d":                     {"a", "b:c: d"},
		"A::":                           {"a", ":"},
		"A: :b":                         {"a", ":b"},
		"X-Forwarded-FOR: b":            {"x-forwarded-for", "b"},
		"ABCDEFGHIJKLMNOPQRSTUVWXYZ:":   {"abcdefghijklmnopqrstuvwxyz", ""},
		"abcdefghijklmnopqrstuvwxyz:":   {"abcdefghijklmnopqrstuvwxyz", ""},
		"0123456789!#$%&'*+-.^_`|~: \"": {"0123456789!#$%&'*+-.^_`|~", "\""},
		"A: Content-Length: 5":          {"a", "Content-Length: 5"},
		"A: B\x80\xff":                  {"a", "B\x80\xff"},
		"A: \xa0":                       {"a", "\xa0"},
		"A: \u00e4\u212a":               {"a", "\u00e4\u212a"},
		"A:  HTTP/1.1 200 OK":           {"a", "HTTP/1.1 200 OK"},
	} {
		wantTold(t, ok(line), api.OK, closed(want[0], want[1]))
		wantTold(t, ok("x: y", line, line), api.OK, closed("x", "y", want[0], want[1], want[0], want[1]))
	}
	wantTold(t, ok(), api.OK, closed())
	wantTold(t, ok("B: 1", "A: 2", "B: 3", "a: 2"), api.OK, closed("b", "1", "a", "2", "b", "3", "a", "2")) // in order
	wantTold(t, ok("Host: x", "TE: y", "Upgrade: z", "Cookie: c"), api.OK, closed("host", "x", "te", "y", "upgrade", "z", "cookie", "c"))
}

// P20.3: lines that are no fields.
func TestNoFields(t *testing.T) {
	for _, line := range []string{
		"A", " ", "\t", "A b", "no colon at all", "Content-Length", "HTTP/1.1 200 OK", // no colon
		":", ": b", ":b", ":status: 200", "::", // an empty name
		"A : b", "A\t: b", " A: b", "\tA: b", " : b", " b: c", "A B: c", // blanks
		"A\r: b", "A\n: b", "\nA: b", "\rA: b", "A\x00: b", "A\x7f: b", "\x80: b", "A\xff: b", "\u00e4: b", "\u212a: b", "\u017f: b", // other bytes
		"(a): b", "a,b: c", "a/b: c", "a;b: c", "a<: c", "a=b: c", "a>: c", "a?: c", "a@b: c", "[a]: c", "a\\: c", "{a}: c", "a\": c",
		"A\x01b", "A\x01: \x01", ": \x01", "A : \x01", // the name is asked ahead of the value
	} {
		wantBoth(t, ok(line), api.ErrName)
		wantBoth(t, ok("x: y", line), api.ErrName)
		wantBoth(t, ok(line, "x: \x01", "Content-Length: x"), api.ErrName)
	}
	for _, line := range []string{"A: \x00", "A:\x01", "A: b\x1fc", "A: \x7f", "A: b\x7f", "A: \n", "A: b\nc", "A: b\r", "A: \rb", "A: b\r ", "A:\x0bb", "A: \x08", "A: \x0e", "A: b\x0c", "A: \x1b[0m", "A: b\n c: d"} {
		wantBoth(t, ok(line), api.ErrValue)
		wantBoth(t, ok("x: y", line), api.ErrValue)
		wantBoth(t, ok(line, "x", "Content-Length: x"), api.ErrValue)
	}
	// A line that goes on behind CR LF is no field.
	wantBoth(t, ok("A: b", " c"), api.ErrName)
	wantBoth(t, ok("A: b", "\tc: d"), api.ErrName)
}

// P20.3: each byte in a name and in a value, at the beginning, in the middle and at the end.
func TestEachByteOfAField(t *testing.T) {
	const token = "!#$%&'*+-.^_`|~0123456789abcdefghijklmnopqrstuvwxyz"
	for c := range 256 {
		b := string([]byte{byte(c)})
		small := b
		if c >= 'A' && c <= 'Z' {
			small = string(rune(c + 32))
		}
		for _, around := range [][2]string{{"", "n"}, {"n", "n"}, {"n", ""}, {"", ""}} {
			s := ok(around[0] + b + around[1] + ": v")
			switch {
			case strings.Contains(token, small):
				wantOne(t, s, api.OK, closed(around[0]+small+around[1], "v"))
			case c == ':' && around[0] != "":
				wantOne(t, s, api.OK, closed(around[0], around[1]+": v"))
			default:
				wantOne(t, s, api.ErrName, hone.Event{})
			}
			s = ok("n: " + around[0] + b + around[1])
			switch {
			case c < ' ' && c != '\t' || c == 0x7f:
				wantOne(t, s, api.ErrValue, hone.Event{})
			default:
				wantOne(t, s, api.OK, closed("n", strings.Trim(around[0]+b+around[1], " \t")))
			}
		}
	}
}

// P20.3: which error comes first.
func TestWhichErrorOfAHead(t *testing.T) {
	all := []string{"HTTP/1.1 600 OK", "A b: c", "A: \x01", "Content-Length: x"}
	// Each goes ahead of those behind it, wherever the fields stand.
	wantBoth(t, lines("HTTP/1.1 60 OK", all[1], all[2], all[3], ""), api.ErrLine)
	wantBoth(t, lines(all[0], all[1], all[2], all[3], ""), api.ErrStatus)
	wantBoth(t, lines(all[0], all[2], ""), api.ErrStatus)
	wantBoth(t, lines(all[0], all[3], ""), api.ErrStatus)
	wantBoth(t, lines("HTTP/1.1 101 ", all[3], all[1], ""), api.ErrStatus)
	wantBoth(t, ok(all[1], all[2], all[3]), api.ErrName)
	wantBoth(t, ok(all[2], all[1], all[3]), api.ErrValue) // the first field that is none
	wantBoth(t, ok(all[3], all[1]), api.ErrName)
	wantBoth(t, ok(all[3], all[2]), api.ErrValue)
	wantBoth(t, ok(all[3], all[2], all[1]), api.ErrValue)
	wantBoth(t, ok(all[3], "x: y"), api.ErrFraming)
	wantBoth(t, ok("Content-Length: 1", "Content-Length: 2", all[2]), api.ErrValue)
	wantBoth(t, ok("Transfer-Encoding: x", all[1]), api.ErrName)
	wantBoth(t, ok("Transfer-Encoding: \x01"), api.ErrValue)
	wantBoth(t, ok("Content-Length: 1\x7f"), api.ErrValue)
	wantBoth(t, ok("Content-Length : 1"), api.ErrName)
	// And all of them behind ErrLarge.
	for _, s := range []string{lines("HTTP/1.1 60 OK", ""), lines(all[0], ""), ok(all[1]), ok(all[2]), ok(all[3])} {
		life{false, len(s) - 1, s, false, nil, api.ErrLarge}.want(t)
		life{false, len(s) - 1, s, true, nil, api.ErrLarge}.want(t)
		life{true, len(s) - 1, s, true, nil, api.ErrLarge}.want(t)
	}
	// ErrLarge goes ahead of ErrEarly, too.
	life{false, 5, "HTTP/1", true, nil, api.ErrLarge}.want(t)
}

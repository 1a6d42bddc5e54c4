package hone_test

import (
	"strings"
	"testing"

	"turnpike/api"
	"turnpike/hone"
)

// wantChunks asks what is told of a body in chunks, behind its head.
func wantChunks(t *testing.T, body string, e api.Errno, events ...hone.Event) {
	t.Helper()
	wantTold(t, chunked(body), e, append(list(inChunks()), events...)...)
	if e == api.OK && (len(events) == 0 || events[len(events)-1].Kind != hone.End) {
		e = api.ErrEarly
	}
	wantOver(t, chunked(body), e, append(list(inChunks()), events...)...)
}

// P20.4: chunks' lines of one to eight digits, of both cases of letters, with noughts ahead.
func TestChunkLines(t *testing.T) {
	for line, n := range map[string]int{
		"1": 1, "9": 9, "a": 10, "f": 15, "A": 10, "F": 15, "0a": 10, "0A": 10, "10": 16, "1f": 31, "1F": 31, "aB": 171, "Ab": 171, "Ff": 255, "0ff": 255,
		"00000001": 1, "0000000a": 10, "000000Ff": 255, "100": 256, "02": 2, "012": 18,
	} {
		body := strings.Repeat("b", n)
		wantChunks(t, line+"\r\n"+body+"\r\n0\r\n\r\n", api.OK, data(body), finish())
		wantChunks(t, "1\r\na\r\n"+line+"\r\n"+body+"\r\n"+line+"\r\n", api.OK, data("a"+body))
	}
	for _, line := range []string{"0", "00", "000", "0000000", "00000000"} {
		wantChunks(t, line+"\r\n\r\n", api.OK, finish())
		wantChunks(t, "2\r\nhi\r\n"+line+"\r\n\r\nmore", api.OK, data("hi"), finish())
	}
	for _, line := range []string{"ffffffff", "FFFFFFFF", "10000000", "7fffffff", "80000000", "12345678", "9aBcDeF0"} {
		wantChunks(t, line+"\r\nabc", api.OK, data("abc"))
	}
}

// P20.4: lines that are none.
func TestNoChunkLines(t *testing.T) {
	for _, line := range []string{
		"", "x", "g", "G", "1g", "g1", ":", "/", "@", "`", "-1", "+1", "-0", " 1", "1 ", "\t1", "1\t", "1;", "1;a=b", "0;a", "0 ", " 0", "0x1", "0X1", "1h", "1.", "1,", "1_0", "_", "\"1\"", "1\n", "1\r", "\r1", "\n1", "\x00", "\xff", "\u0661",
		"000000001", "000000000", "123456789", "fffffffff", "10000000g", "12345678;",
	} {
		for _, ahead := range []string{"", "1\r\na\r\n"} {
			events := []hone.Event{}
			if ahead != "" {
				events = append(events, data("a"))
			}
			wantChunks(t, ahead+line+"\r\n", api.ErrChunk, events...)
			wantChunks(t, ahead+line+"\r\nabc\r\n0\r\n\r\n", api.ErrChunk, events...)
		}
	}
}

// P20.4: how many bytes may be there without a line's end.
func TestChunkLinesWithNoEnd(t *testing.T) {
	for _, line := range []string{"123456789a", "00000000000", "xxxxxxxxxx", "          ", "12345678\r", "1;chunk-extension", "\n\n\n\n\n\n\n\n\n\n", "123456789\r\n", "1\r1\r1\r1\r1\r", "\r\r\r\r\r\r\r\r\r\r"} {
		for n := range len(line) + 1 {
			if n < 10 {
				wantChunks(t, line[:n], api.OK)
			} else {
				wantChunks(t, line[:n], api.ErrChunk)
				wantChunks(t, line[:n]+"\r\n", api.ErrChunk)
			}
		}
	}
	// The end may come with the last two of ten bytes.
	wantChunks(t, "00000001\r", api.OK)
	wantChunks(t, "00000001\r\n", api.OK)
	wantChunks(t, "00000001\ra", api.ErrChunk)
	wantChunks(t, "00000001\na", api.ErrChunk)
	wantChunks(t, "00000001\r\ra", api.ErrChunk)
	wantChunks(t, "000000001\r", api.ErrChunk)
	wantChunks(t, "000000001", api.OK)
	// What stands behind the line counts for nothing.
	wantChunks(t, "3\r\nabc\r\n0\r\n\r\n12345678901234567890", api.OK, data("abc"), finish())
}

// P20.4: of each byte of a line.
func TestEachByteOfAChunkLine(t *testing.T) {
	for c := range 256 {
		b := string([]byte{byte(c)})
		digit := strings.Contains("0123456789abcdefABCDEF", b)
		for _, line := range []string{b, "1" + b, b + "1", "000" + b, b + "2345678", "1234567" + b} {
			r := made(t, false, 500)
			feed(t, r, chunked(line+"\r\nabc"))
			wantEvent(t, r, inChunks())
			ev, ok, e := r.Next()
			switch zero := strings.Trim(line, "0") == ""; {
			case !digit && (ok || e != api.ErrChunk), digit && zero && (ok || e != api.OK), digit && !zero && (!ok || e != api.OK || !strings.HasPrefix("abc", string(ev.Data))):
				t.Fatalf("the line %q: %v, %t, %d", line, ev, ok, e)
			}
		}
	}
}

// P20.4: each byte behind a chunk that is not its CR LF, told as soon as it is there.
func TestBehindAChunk(t *testing.T) {
	for c := range 256 {
		b := string([]byte{byte(c)})
		for _, s := range []string{b, "\r" + b} {
			r := made(t, false, 500)
			feed(t, r, chunked("2\r\nhi"+s))
			wantEvent(t, r, inChunks())
			wantEvent(t, r, data("hi"))
			if s == "\r" || s == "\r\n" {
				wantNone(t, r, api.OK)
				wantState(t, r, len(s), false, false)
			} else {
				wantNone(t, r, api.ErrChunk)
			}
			end(t, r)
			if s == "\r" || s == "\r\n" {
				wantNone(t, r, api.ErrEarly)
			} else {
				wantNone(t, r, api.ErrChunk)
			}
		}
	}
	for _, s := range []string{"b", "\n", "\n\n", "b\r\n", "\r\r", "\rb", "\r\r\n", "\n\r", "\x00\x00", " \r\n", "0\r\n\r\n", "b\n"} {
		wantChunks(t, "1\r\na"+s, api.ErrChunk, data("a"))
		wantChunks(t, "1\r\na"+s+"more", api.ErrChunk, data("a"))
		wantChunks(t, "1\r\na\r\n1\r\na"+s, api.ErrChunk, data("aa"))
	}
}

// P20.4: a body in chunks that is cut, and End told, at each place.
func TestEndAmidChunks(t *testing.T) {
	body := "3\r\nabc\r\n0A\r\n0123456789\r\n1\r\n\n\r\n000\r\nX: 1\r\ny:2\r\n\r\n"
	told := "abc0123456789\n"
	places := []int{3, 4, 5, 12, 13, 14, 15, 16, 17, 18, 19, 20, 21, 27}
	for at := range len(body) {
		n := 0
		for _, place := range places {
			if place < at {
				n++
			}
		}
		events := []hone.Event{}
		if n > 0 {
			events = append(events, data(told[:n]))
		}
		wantChunks(t, body[:at], api.OK, events...)
	}
	wantChunks(t, body, api.OK, data(told), finish("x", "1", "y", "2"))
	wantChunks(t, body+"more", api.OK, data(told), finish("x", "1", "y", "2"))
}

// P20.4: pieces of chunks are told as they come, those of several chunks one by one.
func TestDataOfChunks(t *testing.T) {
	r := made(t, false, 500)
	feed(t, r, chunked("5\r\nab"))
	wantEvent(t, r, inChunks())
	wantEvent(t, r, data("ab"))
	wantNone(t, r, api.OK)
	feed(t, r, "c")
	wantEvent(t, r, data("c"))
	feed(t, r, "de\r\n2\r\nfg\r\n3\r\nh")
	wantEvent(t, r, data("de"))
	wantEvent(t, r, data("fg"))
	wantEvent(t, r, data("h"))
	wantNone(t, r, api.OK)
	feed(t, r, "ij\r\n0\r\n\r\n")
	wantEvent(t, r, data("ij"))
	wantState(t, r, 7, false, false)
	wantEvent(t, r, finish())
	wantState(t, r, 0, true, true)
	wantNone(t, r, api.OK)
}

// P1, P20.4: ever so many chunks.
func TestManyChunks(t *testing.T) {
	const n = 300000
	r := made(t, false, 500)
	feed(t, r, chunked(strings.Repeat("1\r\na\r\n", n)+"0\r\n\r\n"))
	wantEvent(t, r, inChunks())
	for range n {
		wantEvent(t, r, data("a"))
	}
	wantEvent(t, r, finish())
	wantState(t, r, 0, true, true)
}

package norm_test

import (
	"bytes"
	"strings"
	"testing"

	"turnpike/api"
	"turnpike/norm"
)

// P19.3: the chapter's example.
func TestChunkExample(t *testing.T) {
	wantBytes(t, "5\r\nhello\r\n", func() ([]byte, api.Errno) { return norm.Chunk([]byte("hello")) })
}

// P19.3: chunks of all kinds of lengths, which are told in hexadecimal digits.
func TestChunkLengths(t *testing.T) {
	for n, digits := range map[int]string{
		1: "1", 9: "9", 10: "a", 11: "b", 12: "c", 13: "d", 14: "e", 15: "f", 16: "10", 17: "11", 31: "1f", 160: "a0", 255: "ff", 256: "100", 257: "101",
		2748: "abc", 4095: "fff", 4096: "1000", api.MaxData - 1: "3fff", api.MaxData: "4000",
	} {
		data := bytes.Repeat([]byte("x"), n)
		wantBytes(t, digits+"\r\n"+strings.Repeat("x", n)+"\r\n", func() ([]byte, api.Errno) { return norm.Chunk(data) })
	}
}

// P19.3: no bytes make no chunk, since a chunk of the length 0 would be the last.
func TestChunkOfNothing(t *testing.T) {
	for _, data := range [][]byte{nil, {}, make([]byte, 0, 9)} {
		wantBytes(t, "", func() ([]byte, api.Errno) { return norm.Chunk(data) })
	}
}

// P19.3: more than MaxData bytes are refused, with nothing beside the error.
func TestChunkTooLong(t *testing.T) {
	for _, n := range []int{api.MaxData + 1, api.MaxData + 2, 2 * api.MaxData, 1 << 20} {
		if b, e := norm.Chunk(make([]byte, n)); len(b) != 0 || e != api.ErrHuge {
			t.Errorf("%d: %d bytes, %d", n, len(b), e)
		}
	}
}

// P19.3: any bytes are written as they are.
func TestChunkBytes(t *testing.T) {
	all := make([]byte, 256)
	for i := range all {
		all[i] = byte(i)
		wantBytes(t, "1\r\n"+string([]byte{byte(i)})+"\r\n", func() ([]byte, api.Errno) { return norm.Chunk([]byte{byte(i)}) })
	}
	wantBytes(t, "100\r\n"+string(all)+"\r\n", func() ([]byte, api.Errno) { return norm.Chunk(all) })
	for _, data := range []string{"\r\n", "0\r\n\r\n", "\r", "\n", "5\r\nhello\r\n"} {
		if b, e := norm.Chunk([]byte(data)); !strings.HasSuffix(string(b), "\r\n"+data+"\r\n") || e != api.OK {
			t.Errorf("Chunk(%q): %q, %d", data, b, e)
		}
	}
}

// P19.3: the last chunk, with no trailers, one and several, in order and as they are.
func TestLast(t *testing.T) {
	for _, c := range []struct {
		trailers []api.Field
		want     string
	}{
		{nil, "0\r\n\r\n"},
		{[]api.Field{}, "0\r\n\r\n"},
		{fields("x", "1"), "0\r\nx: 1\r\n\r\n"},
		{fields("x", ""), "0\r\nx: \r\n\r\n"},
		{fields("b", "2", "a", "1", "b", "3"), "0\r\nb: 2\r\na: 1\r\nb: 3\r\n\r\n"},
		{fields("x", "a b\t\x80ä;, :"), "0\r\nx: a b\t\x80ä;, :\r\n\r\n"},
		{fields("cookie", "a", "x", "y", "cookie", "b"), "0\r\ncookie: a\r\nx: y\r\ncookie: b\r\n\r\n"},
		{fields("expect", "a", "via", "b"), "0\r\nexpect: a\r\nvia: b\r\n\r\n"},
	} {
		if b := norm.Last(c.trailers); string(b) != c.want {
			t.Errorf("Last(%q): %q, want %q", c.trailers, b, c.want)
		}
	}
	if b := norm.Last(make([]api.Field, 3000)); string(b) != "0\r\n"+strings.Repeat(": \r\n", 3000)+"\r\n" {
		t.Errorf("Last of many: %d bytes", len(b))
	}
}

package hone

import (
	"strconv"
	"strings"
)

// tokenBytes are those that a name may have; its capital letters are made small ahead of asking.
const tokenBytes = "!#$%&'*+-.^_|~`abcdefghijklmnopqrstuvwxyz0123456789"

// isName: whether a name is right, but that it may have capital letters.
func isName(name string) bool {
	for _, c := range []byte(small(name)) {
		if strings.IndexByte(tokenBytes, c) < 0 {
			return false
		}
	}
	return name != ""
}

// isText: whether all bytes of a text may stand in a value.
func isText(text string) bool {
	for _, c := range []byte(text) {
		if c < ' ' && c != '\t' || c == 0x7f {
			return false
		}
	}
	return true
}

// small is a text with its capital letters made small, byte by byte: bytes that are no letters stay, whatever rune they are part of.
func small(text string) string {
	b := []byte(text)
	for i, c := range b {
		if c >= 'A' && c <= 'Z' {
			b[i] = c - 'A' + 'a'
		}
	}
	return string(b)
}

// number reads from one to most digits, and nothing else.
func number(digits string, base, most int) (n int, ok bool) {
	if len(digits) > most {
		return 0, false
	}
	u, err := strconv.ParseUint(digits, base, 64)
	return int(u), err == nil
}

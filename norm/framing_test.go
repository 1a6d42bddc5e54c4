package norm_test

import (
	"testing"

	"turnpike/norm"
)

// withLength are methods whose requests tell a length of 0 where there is no body.
var withLength = []string{"POST", "PUT", "PATCH"}

// others are methods that are none of those, however like them.
var others = []string{
	"GET", "HEAD", "OPTIONS", "DELETE", "TRACE", "CONNECT", "post", "put", "patch", "Post", "pOST", "POSt", "Put", "PUt", "Patch", "PATCh",
	"POSTS", "POS", "PUTS", "PU", "PATCHES", "PATC", "XPOST", "OST", "UT", "P", "M", "!",
}

// P19.1: the framings have these numbers.
func TestFramingNumbers(t *testing.T) {
	if norm.None != 0 || norm.Length != 1 || norm.Chunked != 2 {
		t.Errorf("None %d, Length %d, Chunked %d", norm.None, norm.Length, norm.Chunked)
	}
}

// P19.1: a request that tells a length is framed by it, whatever its method is, and whether it has a body or not.
func TestFramingOfALength(t *testing.T) {
	for _, method := range append(withLength, others...) {
		for _, length := range []int{0, 1, 5, 999999999999999} {
			for _, body := range []bool{false, true} {
				if f := norm.Framing(asked(method, length), body); f != norm.Length {
					t.Errorf("%s of %d, %t: %d", method, length, body, f)
				}
			}
		}
	}
}

// P19.1: without a length, a body comes in chunks, whatever the method is.
func TestFramingOfABody(t *testing.T) {
	for _, method := range append(withLength, others...) {
		if f := norm.Framing(asked(method, -1), true); f != norm.Chunked {
			t.Errorf("%s: %d", method, f)
		}
	}
}

// P19.1: with neither, POST, PUT and PATCH, in capital letters, have the length 0, and no others have any.
func TestFramingOfNothing(t *testing.T) {
	for _, method := range withLength {
		if f := norm.Framing(asked(method, -1), false); f != norm.Length {
			t.Errorf("%s: %d", method, f)
		}
	}
	for _, method := range others {
		if f := norm.Framing(asked(method, -1), false); f != norm.None {
			t.Errorf("%s: %d", method, f)
		}
	}
}

// P19.1: fields say nothing of the framing; the Length alone does.
func TestFramingDespiteFields(t *testing.T) {
	if f := norm.Framing(asked("GET", -1, "content-length", "5", "expect", "100-continue"), false); f != norm.None {
		t.Errorf("without a body: %d", f)
	}
	if f := norm.Framing(asked("GET", -1, "content-length", "5"), true); f != norm.Chunked {
		t.Errorf("with a body: %d", f)
	}
	if f := norm.Framing(asked("GET", 5), true); f != norm.Length {
		t.Errorf("with a Length: %d", f)
	}
}

package qpack_test

import (
	"fmt"
	"math"
	"slices"
	"testing"

	"turnpike/api"
	"turnpike/qpack"
)

// largeNumbers: the bytes that follow a full prefix and make a number that layer 15 refuses, each cut right behind the byte that does.
func largeNumbers(t *testing.T) [][]byte {
	return [][]byte{
		unhex(t, "ffffffffffffffff7f"),   // above MaxNum with the ninth
		unhex(t, "ffffffffffffffffff"),   // the same, and the ninth goes on
		unhex(t, "80808080808080808080"), // the tenth goes on
		unhex(t, "80808080808080808001"), // above MaxNum with the tenth
	}
}

// many: an encoder with so many entries inserted, none of them known; the fields are n 0, n 1, ..
func many(t *testing.T, inserts int) *qpack.Encoder {
	t.Helper()
	x := encoder(t, 1<<20, 1<<20)
	for n := range inserts {
		if _, e := x.Encode(0, fds(numbered(n))); e != api.OK {
			t.Fatal(e)
		}
	}
	x.Out()
	return x
}

// numbered: a field that tells its number.
func numbered(n int) api.Field {
	return fd("n", fmt.Sprint(n))
}

// wantKnown asks an encoder of many for its known count: the delta of a section that names nothing.
func wantKnown(t *testing.T, x *qpack.Encoder, known int) {
	t.Helper()
	wantEncode(t, x, 0, nil, sectionOf(0, known))
}

// P16.4: inserts that are told make entries known, one by one, several at a time, and all.
func TestToldInserts(t *testing.T) {
	x := many(t, 400)
	known := 0
	for _, n := range []int{1, 2, 61, 62, 63, 64, 100, 47} {
		wantFeed(t, x, insertsOf(n), api.OK)
		known += n
		wantKnown(t, x, known)
		wantEncode(t, x, 0, fds(numbered(known-1)), sectionOf(known+1, 0, lineDynamic(0)))
		if known < 400 {
			wantEncode(t, x, 0, fds(numbered(known)), sectionOf(0, known, linePlain("n", fmt.Sprint(known))))
		}
	}
	if known != 400 {
		t.Fatal(known)
	}
	x = many(t, 5)
	wantFeed(t, x, unhex(t, "01 02 02"), api.OK)
	wantKnown(t, x, 5)
}

// P16.4: no inserts told, or more than were inserted.
func TestToldInsertsThatCannotBe(t *testing.T) {
	for _, c := range []struct{ inserts, known, told int }{
		{0, 0, 0}, {0, 0, 1}, {0, 0, 63}, {0, 0, api.MaxNum}, {3, 0, 0}, {3, 0, 4}, {3, 2, 0}, {3, 2, 2}, {3, 3, 0}, {3, 3, 1}, {3, 3, 3}, {3, 1, 1 << 32}, {3, 1, api.MaxNum}, {100, 30, 71},
	} {
		x := many(t, c.inserts)
		if c.known > 0 {
			wantFeed(t, x, insertsOf(c.known), api.OK)
		}
		wantFeed(t, x, insertsOf(c.told), api.ErrIndex)
		wantKnown(t, x, c.known)
	}
	// What went from the table still counts as inserted.
	x := full(t, 1)
	wantInserted(t, x, 1, fd("e", "f"), true)
	wantFeed(t, x, insertsOf(3), api.ErrIndex)
	x = full(t, 1)
	wantInserted(t, x, 1, fd("e", "f"), true)
	wantFeed(t, x, insertsOf(2), api.OK)
	wantKnown(t, x, 3)
}

// P16.4: a section that is read must be open: it was encoded with a need above 0, and neither read nor cancelled.
func TestToldReadOfNoOpenSection(t *testing.T) {
	ab := fds(fd("a", "b"))
	for _, stream := range []int{0, 1, 4, 126, 127, 128, 300, 1 << 40, api.MaxNum} {
		wantFeed(t, encoder(t, 200, 200), readOf(stream), api.ErrStream)
		x := full(t, 2)
		x.Encode(stream, fds(fd(":path", "/"), fd("x", "y")))
		wantFeed(t, x, readOf(stream), api.ErrStream)
		x = full(t, 2)
		x.Encode(stream, ab)
		wantFeed(t, x, readOf(stream^1), api.ErrStream)
		x = full(t, 2)
		x.Encode(stream, ab)
		wantFeed(t, x, readOf(stream), api.OK)
		wantFeed(t, x, readOf(stream), api.ErrStream)
		x = full(t, 2)
		x.Encode(stream, ab)
		wantFeed(t, x, cancelledOf(stream), api.OK)
		wantFeed(t, x, readOf(stream), api.ErrStream)
	}
	// What was refused by Encode opened nothing.
	x := full(t, 2)
	wantRefused(t, x, 4, append(ab, make([]api.Field, 1000)...), api.ErrHuge)
	wantFeed(t, x, readOf(4), api.ErrStream)
	// So many are open as were encoded.
	x = full(t, 2)
	for range 3 {
		x.Encode(4, ab)
	}
	wantFeed(t, x, slices.Repeat(readOf(4), 3), api.OK)
	wantFeed(t, x, readOf(4), api.ErrStream)
}

// P16.4: of a stream's open sections the first one has been read.
func TestToldReadOfTheFirst(t *testing.T) {
	x := full(t, 2)
	x.Encode(4, fds(fd("a", "b")))
	x.Encode(4, fds(fd("c", "d")))
	wantInserted(t, x, 2, fd("e", "f"), false)
	wantFeed(t, x, readOf(4), api.OK)
	wantInserted(t, x, 2, fd("e", "f"), true)
	wantInserted(t, x, 2, fd("g", "h"), false)
	wantFeed(t, x, readOf(4), api.OK)
	wantInserted(t, x, 2, fd("g", "h"), true)
	x = full(t, 2)
	x.Encode(4, fds(fd("c", "d")))
	x.Encode(4, fds(fd("a", "b")))
	wantFeed(t, x, readOf(4), api.OK)
	wantInserted(t, x, 2, fd("e", "f"), false)
	wantFeed(t, x, readOf(4), api.OK)
	wantInserted(t, x, 2, fd("e", "f"), true)
}

// P16.4: a section that is read tells of no more inserts than were known when it was made.
func TestToldReadKeepsKnown(t *testing.T) {
	x := many(t, 10)
	wantFeed(t, x, insertsOf(4), api.OK)
	x.Encode(8, fds(numbered(2)))
	wantFeed(t, x, insertsOf(3), api.OK)
	wantFeed(t, x, readOf(8), api.OK)
	wantKnown(t, x, 7)
}

// P16.4: all open sections of a stream that is cancelled are open no more, those of others stay; none need be there.
func TestToldCancelled(t *testing.T) {
	x := full(t, 2)
	for _, stream := range []int{0, 4, 63, 64, 200, api.MaxNum} {
		wantFeed(t, x, cancelledOf(stream), api.OK)
		wantFeed(t, x, cancelledOf(stream), api.OK)
	}
	for range 3 {
		x.Encode(4, fds(fd("a", "b")))
	}
	x.Encode(8, fds(fd("a", "b")))
	wantFeed(t, x, cancelledOf(4), api.OK)
	wantInserted(t, x, 2, fd("e", "f"), false)
	wantFeed(t, x, cancelledOf(12), api.OK)
	wantFeed(t, x, readOf(8), api.OK)
	wantInserted(t, x, 2, fd("e", "f"), true)
	wantFeed(t, x, readOf(4), api.ErrStream)
	// A stream that was cancelled may have sections again.
	x = full(t, 2)
	x.Encode(4, fds(fd("a", "b")))
	wantFeed(t, x, cancelledOf(4), api.OK)
	x.Encode(4, fds(fd("a", "b")))
	wantFeed(t, x, readOf(4), api.OK)
	wantFeed(t, x, readOf(4), api.ErrStream)
}

// P16.4: numbers that can't be read, as soon as that is known, and not ahead of it.
func TestToldNumbersThatCannotBeRead(t *testing.T) {
	for _, first := range []byte{0xff, 0x7f, 0x3f} {
		for _, rest := range largeNumbers(t) {
			b := append([]byte{first}, rest...)
			wantFeed(t, many(t, 3), b, api.ErrSection)
			x := many(t, 3)
			wantFeed(t, x, b[:len(b)-1], api.OK)
			wantFeed(t, x, b[len(b)-1:], api.ErrSection)
			x = many(t, 3)
			for i := range len(b) - 1 {
				wantFeed(t, x, b[i:i+1], api.OK)
			}
			wantFeed(t, x, b[len(b)-1:], api.ErrSection)
		}
	}
	// A number in more bytes than need be can be read.
	x := many(t, 100)
	wantFeed(t, x, unhex(t, "3f 80 80 00"), api.OK)
	wantKnown(t, x, 63)
}

// P16.4: an instruction that is not there whole waits, wherever it is cut, and does nothing till then.
func TestToldInPieces(t *testing.T) {
	start := func() *qpack.Encoder {
		x := many(t, 200)
		wantFeed(t, x, insertsOf(1), api.OK)
		for _, stream := range []int{5, 126, 127, 300, 70000, api.MaxNum} {
			x.Encode(stream, fds(numbered(0)))
		}
		return x
	}
	for _, stream := range []int{5, 126, 127, 300, 70000, api.MaxNum} {
		for _, b := range [][]byte{readOf(stream), cancelledOf(stream)} {
			for cut := range len(b) + 1 {
				x := start()
				wantFeed(t, x, b[:cut], api.OK)
				wantFeed(t, x, nil, api.OK)
				wantFeed(t, x, b[cut:], api.OK)
				wantFeed(t, x, readOf(stream), api.ErrStream)
			}
		}
	}
	for _, n := range []int{1, 62, 63, 64, 190, 191, 199} {
		b := insertsOf(n)
		for cut := range len(b) + 1 {
			x := start()
			wantFeed(t, x, b[:cut], api.OK)
			if cut < len(b) {
				wantKnown(t, x, 1)
			}
			wantFeed(t, x, []byte{}, api.OK)
			wantFeed(t, x, b[cut:], api.OK)
			wantKnown(t, x, 1+n)
		}
	}
	// Several of them, cut at any two places.
	all := slices.Concat(insertsOf(3), readOf(300), cancelledOf(70000), insertsOf(100), readOf(5), insertsOf(70))
	for one := range len(all) + 1 {
		for two := one; two <= len(all); two++ {
			x := start()
			wantFeed(t, x, all[:one], api.OK)
			wantFeed(t, x, all[one:two], api.OK)
			wantFeed(t, x, all[two:], api.OK)
			wantKnown(t, x, 174)
			wantFeed(t, x, readOf(127), api.OK)
			wantFeed(t, x, readOf(300), api.ErrStream)
		}
	}
}

// P16.4: what stood ahead of an error has been taken; behind it nothing is taken any more, and the error is told again.
func TestToldBehindAnError(t *testing.T) {
	for _, c := range []struct {
		bad string
		e   api.Errno
	}{{"00", api.ErrIndex}, {"08", api.ErrIndex}, {"89", api.ErrStream}, {"ff ffffffffffffffff7f", api.ErrSection}, {"7f ffffffffffffffff7f", api.ErrSection}, {"3f 80808080808080808080", api.ErrSection}} {
		x := many(t, 10)
		wantFeed(t, x, insertsOf(2), api.OK)
		x.Encode(4, fds(numbered(1)))
		x.Encode(8, fds(numbered(1)))
		wantFeed(t, x, slices.Concat(insertsOf(1), readOf(4), unhex(t, c.bad), insertsOf(3), readOf(8)), c.e)
		wantKnown(t, x, 3)
		for _, b := range [][]byte{nil, insertsOf(1), readOf(8), {0}, readOf(4), cancelledOf(8), {0xff}} {
			wantFeed(t, x, b, c.e)
			wantKnown(t, x, 3)
		}
		// Encode goes on.
		wantEncode(t, x, 0, fds(numbered(2), numbered(3), fd("x", "y")), sectionOf(4, 0, lineDynamic(0), linePlain("n", "3"), linePlain("x", "y")))
		wantOut(t, x, insertOf("x", "y"))
	}
	// The section that was read ahead of the error is open no more, the one behind it still is.
	x := full(t, 2)
	x.Encode(4, fds(fd("a", "b")))
	x.Encode(8, fds(fd("c", "d")))
	wantFeed(t, x, slices.Concat(readOf(4), []byte{0}, readOf(8)), api.ErrIndex)
	wantFeed(t, x, readOf(8), api.ErrIndex)
	wantInserted(t, x, 2, fd("e", "f"), true)
	wantInserted(t, x, 2, fd("g", "h"), false)
}

// P1: any numbers and bytes, by chance the right ones too.
func TestToldAnyBytes(t *testing.T) {
	for first := range 256 {
		for second := range 256 {
			x := full(t, 1)
			x.Encode(4, fds(fd("a", "b")))
			x.Feed([]byte{byte(first), byte(second)})
			x.Feed([]byte{byte(second), byte(first)})
		}
	}
	for _, n := range []int{math.MinInt, -1, 0, math.MaxInt} {
		full(t, 2).Encode(n, nil)
	}
}

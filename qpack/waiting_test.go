package qpack_test

import (
	"fmt"
	"math"
	"slices"
	"strings"
	"testing"

	"turnpike/api"
	"turnpike/qpack"
)

// done: a section that was read.
func done(stream int, fields ...api.Field) qpack.Done {
	return qpack.Done{Stream: stream, Fields: fields}
}

// failed: a section that could not be read.
func failed(stream int, e api.Errno) qpack.Done {
	return qpack.Done{Stream: stream, Error: e}
}

// empty: a decoder with room for entries, none of which has come.
func empty(t *testing.T, blocked, limit int) *qpack.Decoder {
	t.Helper()
	d := decoder(t, tableMost, blocked, limit)
	wantFeed(t, d, capacityOf(tableMost), api.OK)
	return d
}

// waitFor: a section that needs so many inserts and tells the last one of them.
func waitFor(need int) []byte {
	return sectionOf(need+1, 0, lineDynamic(0))
}

// P16.7, P16.6, P16.8: a section waits, and is ready once its inserts have come; Out tells first of these.
func TestWaiting(t *testing.T) {
	d := empty(t, 1, 1000)
	wantWaits(t, d, 4, waitFor(2))
	wantOut(t, d, nil)
	wantReady(t, d)
	wantFeed(t, d, insertOf("n", "0"), api.OK)
	wantOut(t, d, []byte{1})
	wantReady(t, d)
	wantFeed(t, d, insertOf("n", "1"), api.OK)
	wantReady(t, d, done(4, numbered(1)))
	wantOut(t, d, []byte{1, 0x84})
}

// P16.7: so many sections wait as may, and not one more; what need not wait is read all the same.
func TestWaitingBound(t *testing.T) {
	for _, blocked := range []int{0, 1, 2, 3, 1023, 1024} {
		d := empty(t, blocked, 1000)
		for stream := range blocked {
			wantWaits(t, d, stream, waitFor(1))
		}
		for range 2 {
			wantFault(t, d, blocked, waitFor(1), api.ErrBlocked)
			wantFault(t, d, api.MaxNum, waitFor(2), api.ErrBlocked)
		}
		wantFields(t, d, blocked, unhex(t, "0000 ca"), fds(fd(":method", "GET")))
		if blocked > 0 {
			wantFault(t, d, blocked-1, waitFor(1), api.ErrStream)
			wantFault(t, d, 0, unhex(t, "0000 ca"), api.ErrStream)
		}
		wantOut(t, d, nil)
		wantFeed(t, d, insertOf("n", "0"), api.OK)
		var want []qpack.Done
		said := []byte{1}
		for stream := range blocked {
			want = append(want, done(stream, numbered(0)))
			said = append(said, readOf(stream)...)
		}
		wantReady(t, d, want...)
		wantOut(t, d, said)
		// None waits any more.
		for stream := range blocked {
			wantWaits(t, d, stream, waitFor(2))
		}
		wantFault(t, d, blocked, waitFor(2), api.ErrBlocked)
	}
}

// P16.7: a stream has one section that waits at most; others are free, and so is it once that one is ready, asked for or not.
func TestWaitingOfOneStream(t *testing.T) {
	d := empty(t, 5, 1000)
	wantWaits(t, d, 4, waitFor(1))
	for _, b := range [][]byte{waitFor(1), waitFor(2), unhex(t, "0000 ca"), nil, {0xff}} {
		wantFault(t, d, 4, b, api.ErrStream)
	}
	wantWaits(t, d, 5, waitFor(1))
	wantFeed(t, d, insertOf("n", "0"), api.OK)
	wantFields(t, d, 4, unhex(t, "0000 ca"), fds(fd(":method", "GET")))
	wantWaits(t, d, 4, waitFor(2))
	wantFault(t, d, 4, waitFor(1), api.ErrStream)
	wantFeed(t, d, insertOf("n", "1"), api.OK)
	wantReady(t, d, done(4, numbered(0)), done(5, numbered(0)), done(4, numbered(1)))
	wantOut(t, d, []byte{1, 0x84, 0x85, 1, 0x84})
}

// P16.6: those whose need has come are read in the order in which they came to wait, whatever their needs and streams.
func TestWaitingOrder(t *testing.T) {
	d := empty(t, 9, 1000)
	for _, c := range []struct{ stream, need int }{{9, 3}, {1, 1}, {7, 2}, {3, 3}, {8, 5}, {2, 1}, {0, 4}} {
		wantWaits(t, d, c.stream, waitFor(c.need))
	}
	wantFeed(t, d, insertOf("n", "0"), api.OK)
	wantReady(t, d, done(1, numbered(0)), done(2, numbered(0)))
	wantOut(t, d, []byte{1, 0x81, 0x82})
	wantWaits(t, d, 1, waitFor(3))
	wantFeed(t, d, slices.Concat(insertOf("n", "1"), insertOf("n", "2"), insertOf("n", "3")), api.OK)
	wantReady(t, d, done(9, numbered(2)), done(7, numbered(1)), done(3, numbered(2)), done(0, numbered(3)), done(1, numbered(2)))
	wantOut(t, d, []byte{3, 0x89, 0x87, 0x83, 0x80, 0x81})
	wantFeed(t, d, capacityOf(900), api.OK)
	wantReady(t, d)
	wantFeed(t, d, insertOf("n", "4"), api.OK)
	wantReady(t, d, done(8, numbered(4)))
	wantOut(t, d, []byte{1, 0x88})
}

// P16.8: Ready and Out gather what there is till they are asked.
func TestWaitingGathers(t *testing.T) {
	d := empty(t, 9, 1000)
	wantWaits(t, d, 4, waitFor(1))
	wantWaits(t, d, 8, waitFor(2))
	wantWaits(t, d, 200, waitFor(3))
	for n := range 3 {
		wantFeed(t, d, insertOf("n", fmt.Sprint(n)), api.OK)
	}
	wantFields(t, d, 12, waitFor(3), fds(numbered(2)))
	if e := d.Cancel(100); e != api.OK {
		t.Error(e)
	}
	wantReady(t, d, done(4, numbered(0)), done(8, numbered(1)), done(200, numbered(2)))
	wantOut(t, d, unhex(t, "01 84 01 88 01 ff49 8c 7f25"))
}

// P16.6: a waiting section may turn out to be wrong, or too much; then nothing is said of it, and it is no error of the decoder's.
func TestWaitingErrors(t *testing.T) {
	for _, c := range []struct {
		digits string // behind the coded need 2
		e      api.Errno
	}{
		{"", api.ErrSection}, {"7f", api.ErrSection}, {"81", api.ErrSection}, {"00 81", api.ErrSection}, {"00 10", api.ErrSection}, {"00 e8", api.ErrSection}, {"00 51 81ff", api.ErrSection}, {"00 51", api.ErrSection},
		{"80 11", api.ErrSection}, {"00 80 80 80", api.ErrLarge}, {"00 80 80 80 e8", api.ErrLarge}, {"00 80 80 e8 80", api.ErrSection}, {"7f ffffffffffffffff7f", api.ErrSection},
	} {
		d := empty(t, 9, 2*34)
		wantWaits(t, d, 4, waitFor(1))
		wantWaits(t, d, 8, append([]byte{2}, unhex(t, c.digits)...))
		wantWaits(t, d, 12, waitFor(1))
		wantFeed(t, d, insertOf("n", "0"), api.OK)
		wantReady(t, d, done(4, numbered(0)), failed(8, c.e), done(12, numbered(0)))
		wantOut(t, d, []byte{1, 0x84, 0x8c})
		wantFeed(t, d, insertOf("n", "1"), api.OK)
		wantFields(t, d, 8, waitFor(2), fds(numbered(1)))
		wantOut(t, d, []byte{1, 0x88})
	}
}

// P16.7: a section that waited and has no lines, or names static entries alone, is read as others are.
func TestWaitingForNothingNamed(t *testing.T) {
	d := empty(t, 9, 1000)
	wantWaits(t, d, 4, sectionOf(2, 0))
	wantWaits(t, d, 8, sectionOf(2, 0, lineStatic(10)))
	wantFeed(t, d, insertOf("n", "0"), api.OK)
	wantReady(t, d, done(4), done(8, fd(":method", "GET")))
	wantOut(t, d, []byte{1, 0x84, 0x88})
}

// P16.6: waiting sections are read when all of a Feed's instructions are taken: what went by then is not there.
func TestWaitingIsReadBehindAllInstructions(t *testing.T) {
	d := decoder(t, tableMost, 9, 1000)
	wantFeed(t, d, capacityOf(34), api.OK)
	wantWaits(t, d, 4, waitFor(1))
	wantWaits(t, d, 8, waitFor(2))
	wantFeed(t, d, slices.Concat(insertOf("n", "0"), insertOf("n", "1")), api.OK)
	wantReady(t, d, failed(4, api.ErrSection), done(8, numbered(1)))
	wantOut(t, d, []byte{2, 0x88})
	wantWaits(t, d, 4, waitFor(3))
	wantFeed(t, d, slices.Concat(insertOf("n", "2"), capacityOf(0)), api.OK)
	wantReady(t, d, failed(4, api.ErrSection))
	wantOut(t, d, []byte{1})
	d = decoder(t, tableMost, 9, 1000)
	wantFeed(t, d, capacityOf(34), api.OK)
	wantWaits(t, d, 4, waitFor(1))
	wantFeed(t, d, insertOf("n", "0"), api.OK)
	wantFeed(t, d, insertOf("n", "1"), api.OK)
	wantReady(t, d, done(4, numbered(0)))
	wantOut(t, d, []byte{1, 0x84, 1})
}

// P16.7: the need is the one that it was when the section came, however many inserts come by one Feed.
func TestWaitingKeepsItsNeed(t *testing.T) {
	const most = 70 // needs wrap at 4
	d := decoder(t, most, 9, 1000)
	wantFeed(t, d, capacityOf(most), api.OK)
	wantWaits(t, d, 4, sectionOf(2, 0, lineDynamic(0)))               // the need is 1; at a count of 5 it would be 5
	wantWaits(t, d, 8, sectionOf(2, 4, lineStatic(10)))               // the base is 5
	wantWaits(t, d, 12, sectionOf(2, 4, lineDynamic(0)))              // the entry 4, which is not below the need
	wantWaits(t, d, 16, sectionOf(3, -3, lineStatic(1)))              // the base is -1; at a need of 6 it would be 3
	wantWaits(t, d, 20, slices.Concat([]byte{3}, []byte{0x81, 0xc1})) // the base is 0
	var five []byte
	for n := range 5 {
		five = append(five, insertOf("", fmt.Sprint(n))...)
	}
	wantFeed(t, d, five, api.OK)
	wantReady(t, d, failed(4, api.ErrSection), done(8, fd(":method", "GET")), failed(12, api.ErrSection), failed(16, api.ErrSection), done(20, fd(":path", "/")))
	wantOut(t, d, []byte{5, 0x88, 0x94})
}

// P16.6: inserts that came ahead of an error make sections ready, too; behind it nothing does, and Ready and Out still tell.
func TestWaitingAndErrors(t *testing.T) {
	for _, c := range []struct {
		bad []byte
		e   api.Errno
	}{{capacityOf(1001), api.ErrCapacity}, {insertStatic(40, ""), api.ErrIndex}, {unhex(t, "61ff"), api.ErrSection}} {
		d := empty(t, 9, 1000)
		wantWaits(t, d, 4, waitFor(2))
		wantWaits(t, d, 8, waitFor(3))
		wantWaits(t, d, 12, waitFor(1))
		wantFeed(t, d, slices.Concat(insertOf("n", "0"), insertOf("n", "1"), c.bad, insertOf("n", "2")), c.e)
		wantFeed(t, d, insertOf("n", "2"), c.e)
		wantReady(t, d, done(4, numbered(1)), done(12, numbered(0)))
		wantOut(t, d, []byte{2, 0x84, 0x8c})
		wantFault(t, d, 16, waitFor(1), c.e)
		wantFault(t, d, 8, waitFor(3), c.e)
		if e := d.Cancel(8); e != api.OK {
			t.Error(e)
		}
		wantOut(t, d, []byte{0x48})
		// Without an insert none is ready.
		d = empty(t, 9, 1000)
		wantWaits(t, d, 4, waitFor(1))
		wantFeed(t, d, slices.Concat(c.bad, insertOf("n", "0")), c.e)
		wantReady(t, d)
		wantOut(t, d, nil)
	}
}

// P16.8: the bounds of Cancel.
func TestCancelBounds(t *testing.T) {
	d := empty(t, 9, 1000)
	wantWaits(t, d, 0, waitFor(1))
	for _, stream := range []int{-1, -2, math.MinInt, api.MaxNum + 1, math.MaxInt} {
		if e := d.Cancel(stream); e != api.ErrStream {
			t.Errorf("Cancel(%d): %d", stream, e)
		}
	}
	wantOut(t, d, nil)
	for _, c := range []struct {
		stream int
		want   string
	}{{1, "41"}, {4, "44"}, {62, "7e"}, {63, "7f00"}, {64, "7f01"}, {190, "7f7f"}, {191, "7f8001"}, {api.MaxNum, "7fc0ffffffffffffff3f"}} {
		if e := d.Cancel(c.stream); e != api.OK {
			t.Errorf("Cancel(%d): %d", c.stream, e)
		}
		wantOut(t, d, unhex(t, c.want))
	}
	wantFault(t, d, 0, waitFor(1), api.ErrStream)
}

// P16.8: the waiting section of a stream that is cancelled is dropped and its place is free; those of others stay in their order.
func TestCancel(t *testing.T) {
	d := empty(t, 3, 1000)
	for _, stream := range []int{8, 4, 12} {
		wantWaits(t, d, stream, waitFor(1))
	}
	wantFault(t, d, 16, waitFor(1), api.ErrBlocked)
	for range 2 {
		if e := d.Cancel(4); e != api.OK {
			t.Error(e)
		}
	}
	wantOut(t, d, []byte{0x44, 0x44})
	wantWaits(t, d, 16, waitFor(1))
	wantFault(t, d, 20, waitFor(1), api.ErrBlocked)
	wantFault(t, d, 12, waitFor(1), api.ErrStream)
	d.Cancel(12)
	wantWaits(t, d, 4, waitFor(2))
	wantFeed(t, d, insertOf("n", "0"), api.OK)
	wantReady(t, d, done(8, numbered(0)), done(16, numbered(0)))
	wantOut(t, d, []byte{0x4c, 1, 0x88, 0x90})
	wantFeed(t, d, insertOf("n", "1"), api.OK)
	wantReady(t, d, done(4, numbered(1)))
	wantOut(t, d, []byte{1, 0x84})
}

// P16.8: what is ready is told, also if its stream is cancelled then.
func TestCancelOfWhatIsReady(t *testing.T) {
	d := empty(t, 3, 1000)
	wantWaits(t, d, 4, waitFor(1))
	wantFeed(t, d, insertOf("n", "0"), api.OK)
	d.Cancel(4)
	wantReady(t, d, done(4, numbered(0)))
	wantOut(t, d, []byte{1, 0x84, 0x44})
}

// P16.6, P16.7: a limit holds for each section by itself.
func TestWaitingLimit(t *testing.T) {
	d := empty(t, 9, 100)
	for stream := range 5 {
		wantWaits(t, d, stream, sectionOf(2, 0, lineDynamic(0), lineDynamic(0)))
	}
	wantFeed(t, d, insertOf("n", strings.Repeat("v", 17)), api.OK)
	want := fds(fd("n", strings.Repeat("v", 17)), fd("n", strings.Repeat("v", 17)))
	wantReady(t, d, done(0, want...), done(1, want...), done(2, want...), done(3, want...), done(4, want...))
}

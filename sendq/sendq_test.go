package sendq_test

import (
	"math"
	"math/rand"
	"strings"
	"testing"

	"turnpike/api"
	"turnpike/sendq"
)

// made: a new queue, which must be made.
func made(t *testing.T, room int) *sendq.Queue {
	t.Helper()
	q, e := sendq.New(room)
	if q == nil || e != api.OK {
		t.Fatalf("New(%d): %v, %d", room, q, e)
	}
	return q
}

// wantWrite asks Write for one answer.
func wantWrite(t *testing.T, q *sendq.Queue, data string, n int, e api.Errno) {
	t.Helper()
	if got, gotE := q.Write([]byte(data)); got != n || gotE != e {
		t.Errorf("Write(%.20q): %d, %d; want %d, %d", data, got, gotE, n, e)
	}
}

// wantFinish asks Finish for one answer.
func wantFinish(t *testing.T, q *sendq.Queue, e api.Errno) {
	t.Helper()
	if got := q.Finish(); got != e {
		t.Errorf("Finish: %d; want %d", got, e)
	}
}

// wantNext asks Next for one chunk.
func wantNext(t *testing.T, q *sendq.Queue, most, limit, at int, data string, fin bool) {
	t.Helper()
	gotAt, got, gotFin, ok := q.Next(most, limit)
	if gotAt != at || string(got) != data || gotFin != fin || !ok {
		t.Errorf("Next(%d, %d): %d, %.20q, %v, %v; want %d, %.20q, %v, true", most, limit, gotAt, got, gotFin, ok, at, data, fin)
	}
}

// wantNone asks Next for no chunk, twice: to be asked for nothing changes nothing.
func wantNone(t *testing.T, q *sendq.Queue, most, limit int) {
	t.Helper()
	for range 2 {
		at, data, fin, ok := q.Next(most, limit)
		if at != 0 || len(data) != 0 || fin || ok {
			t.Errorf("Next(%d, %d): %d, %.20q, %v, %v; want none", most, limit, at, data, fin, ok)
		}
	}
}

// wantAck asks Ack for one answer.
func wantAck(t *testing.T, q *sendq.Queue, at, n int, fin bool, e api.Errno) {
	t.Helper()
	if got := q.Ack(at, n, fin); got != e {
		t.Errorf("Ack(%d, %d, %v): %d; want %d", at, n, fin, got, e)
	}
}

// wantLose asks Lose for one answer.
func wantLose(t *testing.T, q *sendq.Queue, at, n int, fin bool, e api.Errno) {
	t.Helper()
	if got := q.Lose(at, n, fin); got != e {
		t.Errorf("Lose(%d, %d, %v): %d; want %d", at, n, fin, got, e)
	}
}

// state is all that a queue tells without being asked for a chunk.
type state struct {
	written, sent, base, room int
	done                      bool
}

// wantState asks for all that a queue tells, twice: to be asked changes nothing.
func wantState(t *testing.T, q *sendq.Queue, want state) {
	t.Helper()
	for range 2 {
		got := state{q.Written(), q.Sent(), q.Base(), q.Room(), q.Done()}
		if got != want {
			t.Errorf("state %+v; want %+v", got, want)
		}
	}
}

// all is a number of bytes that is more than any test's queue has.
const all = 1000000

// P4.1, P4.5
func TestNewMakesAnEmptyQueue(t *testing.T) {
	for _, room := range []int{1, 2, 8, api.MaxRoom - 1, api.MaxRoom} {
		q := made(t, room)
		wantState(t, q, state{room: room})
		wantNone(t, q, all, all)
		wantNone(t, q, 0, 0)
		wantState(t, q, state{room: room})
	}
}

// P4.1
func TestNewRefusesTooLittleAndTooMuchRoom(t *testing.T) {
	for _, room := range []int{0, -1, -2, -api.MaxRoom, math.MinInt, api.MaxRoom + 1, api.MaxRoom + 2, api.MaxNum, math.MaxInt} {
		if q, e := sendq.New(room); q != nil || e != api.ErrMost {
			t.Errorf("New(%d): %v, %d", room, q, e)
		}
	}
}

// P4.1, P4.2: the room is what New was told, and what is done makes room again.
func TestRoomIsWhatNewWasTold(t *testing.T) {
	for _, room := range []int{1, 2, 3, 8, 1000, api.MaxRoom - 1, api.MaxRoom} {
		q := made(t, room)
		full := strings.Repeat("a", room)
		wantWrite(t, q, full+"b", room, api.OK)
		wantWrite(t, q, "c", 0, api.OK)
		wantState(t, q, state{written: room})
		wantNext(t, q, all, all, 0, full, false)
		wantWrite(t, q, "c", 0, api.OK)
		wantState(t, q, state{written: room, sent: room})
		wantAck(t, q, 0, 1, false, api.OK)
		wantState(t, q, state{written: room, sent: room, base: 1, room: 1})
		wantWrite(t, q, "de", 1, api.OK)
		wantState(t, q, state{written: room + 1, sent: room, base: 1})
		wantAck(t, q, 0, room, false, api.OK)
		wantState(t, q, state{written: room + 1, sent: room, base: room, room: room - 1})
		wantWrite(t, q, full, room-1, api.OK)
		wantNext(t, q, all, all, room, "d"+full[1:], false)
		wantState(t, q, state{written: 2 * room, sent: 2 * room, base: room})
		wantAck(t, q, 0, 2*room, false, api.OK)
		wantState(t, q, state{written: 2 * room, sent: 2 * room, base: 2 * room, room: room})
	}
}

// P4.1 to P4.5: the chapter's example.
func TestExample(t *testing.T) {
	q := made(t, 4)
	wantWrite(t, q, "abcdef", 4, api.OK)
	wantNext(t, q, 3, 9, 0, "abc", false)
	wantNext(t, q, 9, 9, 3, "d", false)
	wantNone(t, q, 9, 9)
	wantLose(t, q, 0, 3, false, api.OK)
	wantAck(t, q, 1, 1, false, api.OK)
	wantNext(t, q, 9, 9, 0, "a", false)
	wantNext(t, q, 9, 9, 2, "c", false)
	wantAck(t, q, 0, 4, false, api.OK)
	wantState(t, q, state{written: 4, sent: 4, base: 4, room: 4})
	wantWrite(t, q, "ef", 2, api.OK)
	wantFinish(t, q, api.OK)
	wantNext(t, q, 9, 5, 4, "e", false)
	wantNext(t, q, 9, 9, 5, "f", true)
	wantState(t, q, state{written: 6, sent: 6, base: 4, room: 2})
	wantAck(t, q, 4, 2, true, api.OK)
	wantState(t, q, state{written: 6, sent: 6, base: 6, room: 4, done: true})
}

// P4.2: how much of what is handed in is written; 3 of 8 bytes are there.
func TestWriteByHowMuchThereIs(t *testing.T) {
	for _, c := range []struct {
		data string
		n    int
	}{
		{"", 0}, {"d", 1}, {"defg", 4}, {"defgh", 5}, {"defghi", 5}, {"defghijklmnop", 5}, {"\x00\xff\x00", 3},
	} {
		q := made(t, 8)
		wantWrite(t, q, "abc", 3, api.OK)
		wantWrite(t, q, c.data, c.n, api.OK)
		wantState(t, q, state{written: 3 + c.n, room: 5 - c.n})
		wantNext(t, q, all, all, 0, "abc"+c.data[:c.n], false)
		wantNone(t, q, all, all)
	}
}

// P4.2: nil is as empty as an empty list.
func TestWriteOfNothing(t *testing.T) {
	q := made(t, 1)
	for _, data := range [][]byte{nil, {}} {
		if n, e := q.Write(data); n != 0 || e != api.OK {
			t.Errorf("Write(%v): %d, %d", data, n, e)
		}
	}
	wantState(t, q, state{room: 1})
	wantNone(t, q, all, all)
}

// P4.2: behind Finish nothing is written, in whatever state the end is.
func TestNothingIsWrittenBehindFinish(t *testing.T) {
	for _, first := range []string{"", "abc"} {
		q := made(t, 8)
		size := len(first)
		wantWrite(t, q, first, size, api.OK)
		wantState(t, q, state{written: size, room: 8 - size})
		wantFinish(t, q, api.OK)
		refused := func(want state) {
			t.Helper()
			wantState(t, q, want)
			wantFinish(t, q, api.ErrDone)
			wantWrite(t, q, "d", 0, api.ErrDone)
			wantWrite(t, q, "defghijklm", 0, api.ErrDone)
			wantWrite(t, q, "", 0, api.ErrDone)
			wantState(t, q, want)
		}
		refused(state{written: size, room: 8 - size})
		wantNext(t, q, all, all, 0, first, true)
		refused(state{written: size, sent: size, room: 8 - size})
		wantLose(t, q, 0, size, true, api.OK)
		refused(state{written: size, sent: size, room: 8 - size})
		wantNext(t, q, all, all, 0, first, true)
		wantAck(t, q, 0, size, true, api.OK)
		refused(state{written: size, sent: size, base: size, room: 8, done: true})
		wantNone(t, q, all, all)
	}
}

// P4.2: Finish with a full queue: the end takes no room.
func TestFinishOfAFullQueue(t *testing.T) {
	q := made(t, 2)
	wantWrite(t, q, "abc", 2, api.OK)
	wantFinish(t, q, api.OK)
	wantState(t, q, state{written: 2})
	wantNext(t, q, 1, all, 0, "a", false)
	wantNext(t, q, 1, all, 1, "b", true)
}

// P4.3: fresh bytes by most and limit; 5 are written, 1 is out already.
func TestNextOfFreshBytes(t *testing.T) {
	for _, c := range []struct {
		most, limit int
		want        string
	}{
		{math.MinInt, all, ""}, {-1, all, ""}, {0, all, ""},
		{1, all, "b"}, {2, all, "bc"}, {3, all, "bcd"}, {4, all, "bcde"}, {5, all, "bcde"},
		{api.MaxRoom + 1, all, "bcde"}, {math.MaxInt, all, "bcde"}, {math.MaxInt, math.MaxInt, "bcde"},
		{all, math.MinInt, ""}, {math.MaxInt, math.MinInt, ""}, {math.MaxInt, math.MinInt + 1, ""}, {all, -1, ""}, {all, 0, ""}, {all, 1, ""},
		{all, 2, "b"}, {all, 3, "bc"}, {all, 4, "bcd"}, {all, 5, "bcde"}, {all, 6, "bcde"}, {all, api.MaxNum, "bcde"},
		{1, 1, ""}, {1, 2, "b"}, {1, 3, "b"}, {2, 2, "b"}, {2, 3, "bc"}, {3, 3, "bc"}, {0, 3, ""}, {math.MinInt, math.MinInt, ""},
	} {
		for _, finished := range []bool{false, true} {
			q := made(t, 8)
			wantWrite(t, q, "abcde", 5, api.OK)
			wantNext(t, q, 1, all, 0, "a", false)
			if finished {
				wantFinish(t, q, api.OK)
			}
			had := len(c.want)
			if had == 0 {
				wantNone(t, q, c.most, c.limit)
			} else {
				wantNext(t, q, c.most, c.limit, 1, c.want, finished && had == 4)
			}
			wantState(t, q, state{written: 5, sent: 1 + had, room: 3})
			if had < 4 {
				wantNext(t, q, all, all, 1+had, "bcde"[had:], finished)
			}
			wantNone(t, q, all, all)
			wantState(t, q, state{written: 5, sent: 5, room: 3})
		}
	}
}

// P4.3: fresh bytes that were written one behind the other go out in one chunk.
func TestNextGoesOverSeveralWrites(t *testing.T) {
	q := made(t, 9)
	wantWrite(t, q, "ab", 2, api.OK)
	wantWrite(t, q, "c", 1, api.OK)
	wantNext(t, q, 1, all, 0, "a", false)
	wantWrite(t, q, "def", 3, api.OK)
	wantNext(t, q, all, all, 1, "bcdef", false)
	wantWrite(t, q, "g", 1, api.OK)
	wantNext(t, q, all, all, 6, "g", false)
}

// P4.3: lost bytes go ahead of fresh ones, and never in one chunk with them or with bytes that are out or done.
func TestNextOfLostBytesGoesAheadOfFreshOnes(t *testing.T) {
	q := made(t, 10)
	wantWrite(t, q, "abcdefghij", 10, api.OK)
	wantNext(t, q, 8, all, 0, "abcdefgh", false)
	wantLose(t, q, 1, 2, false, api.OK)
	wantLose(t, q, 7, 1, false, api.OK)
	wantLose(t, q, 4, 2, false, api.OK)
	wantAck(t, q, 3, 1, false, api.OK)
	wantNext(t, q, all, all, 1, "bc", false)
	wantNext(t, q, all, all, 4, "ef", false)
	wantNext(t, q, all, all, 7, "h", false)
	wantState(t, q, state{written: 10, sent: 8})
	wantNext(t, q, all, all, 8, "ij", false)
	wantNone(t, q, all, all)
}

// P4.3: pieces that are lost one by one and follow one another are one chunk.
func TestNextGoesOverSeveralLostPieces(t *testing.T) {
	q := made(t, 10)
	wantWrite(t, q, "abcdefgh", 8, api.OK)
	for i, c := range "abcdefgh" {
		wantNext(t, q, 1, all, i, string(c), false)
	}
	for _, at := range []int{5, 2, 3, 6, 4} {
		wantLose(t, q, at, 1, false, api.OK)
	}
	wantNext(t, q, all, all, 2, "cdefg", false)
	wantNone(t, q, all, all)
}

// P4.3: lost bytes by most; 4 of 6 are lost, 2 more are fresh; the limit is for fresh bytes only.
func TestNextOfLostBytesByMost(t *testing.T) {
	for _, c := range []struct {
		most int
		want string
	}{
		{math.MinInt, ""}, {-1, ""}, {0, ""}, {1, "b"}, {2, "bc"}, {3, "bcd"}, {4, "bcde"}, {5, "bcde"}, {math.MaxInt, "bcde"},
	} {
		for _, limit := range []int{math.MinInt, -1, 0, 1, 2, 3, 5, 6, all, math.MaxInt} {
			q := made(t, 8)
			wantWrite(t, q, "abcdefgh", 8, api.OK)
			wantNext(t, q, 6, all, 0, "abcdef", false)
			wantLose(t, q, 1, 4, false, api.OK)
			wantFinish(t, q, api.OK)
			had := len(c.want)
			if had == 0 {
				wantNone(t, q, c.most, limit)
			} else {
				wantNext(t, q, c.most, limit, 1, c.want, false)
			}
			if had < 4 {
				wantNext(t, q, all, limit, 1+had, "bcde"[had:], false)
			}
			wantState(t, q, state{written: 8, sent: 6})
			wantNone(t, q, all, 6)
			wantNext(t, q, all, all, 6, "gh", true)
		}
	}
}

// P4.3, P4.4: what went out again can be lost again, and arrive.
func TestLostAgain(t *testing.T) {
	q := made(t, 4)
	wantWrite(t, q, "abcd", 4, api.OK)
	wantFinish(t, q, api.OK)
	wantNext(t, q, all, all, 0, "abcd", true)
	for range 5 {
		wantLose(t, q, 1, 2, true, api.OK)
		wantNext(t, q, all, 0, 1, "bc", false)
		wantNext(t, q, all, 0, 4, "", true)
		wantNone(t, q, all, all)
		wantLose(t, q, 0, 4, true, api.OK)
		wantNext(t, q, 3, 0, 0, "abc", false)
		wantNext(t, q, 3, 0, 3, "d", true)
		wantNone(t, q, all, all)
	}
	wantState(t, q, state{written: 4, sent: 4})
	wantAck(t, q, 0, 4, true, api.OK)
	wantState(t, q, state{written: 4, sent: 4, base: 4, room: 4, done: true})
}

// P4.3, P4.5: a stream without a byte is its end alone.
func TestEmptyStream(t *testing.T) {
	for _, n := range []int{math.MinInt, -1, 0, 1, all, math.MaxInt} {
		q := made(t, 1)
		wantAck(t, q, 0, 0, true, api.ErrRange)
		wantFinish(t, q, api.OK)
		wantAck(t, q, 0, 0, true, api.ErrRange)
		wantLose(t, q, 0, 0, true, api.ErrRange)
		wantState(t, q, state{room: 1})
		wantNext(t, q, n, n, 0, "", true)
		wantNone(t, q, n, n)
		wantAck(t, q, 0, 0, false, api.OK)
		wantState(t, q, state{room: 1})
		wantLose(t, q, 0, 0, true, api.OK)
		wantState(t, q, state{room: 1})
		wantNext(t, q, n, n, 0, "", true)
		wantNone(t, q, n, n)
		wantAck(t, q, 0, 0, true, api.OK)
		wantState(t, q, state{room: 1, done: true})
		wantLose(t, q, 0, 0, true, api.OK)
		wantNone(t, q, n, n)
		wantState(t, q, state{room: 1, done: true})
	}
}

// P4.3: an end that is fresh, by what is ahead of it; 4 bytes are written.
func TestFreshEnd(t *testing.T) {
	begun := func() *sendq.Queue {
		q := made(t, 8)
		wantWrite(t, q, "abcd", 4, api.OK)
		return q
	}

	// With bytes: only with the chunk that goes up to it.
	q := begun()
	wantFinish(t, q, api.OK)
	wantNone(t, q, 0, all)
	wantNone(t, q, all, 0)
	wantNext(t, q, all, 3, 0, "abc", false)
	wantNone(t, q, all, 3)
	wantNone(t, q, 0, all)
	wantNext(t, q, all, 4, 3, "d", true)
	wantNone(t, q, all, all)

	// By itself, whatever most and limit are, once every byte went out.
	for _, n := range []int{math.MinInt, -1, 0, 1, 3, 4, 5, math.MaxInt} {
		q = begun()
		wantNext(t, q, all, all, 0, "abcd", false)
		wantNone(t, q, n, n)
		wantFinish(t, q, api.OK)
		wantNext(t, q, n, n, 4, "", true)
		wantNone(t, q, n, n)
	}

	// With lost bytes that go up to it.
	q = begun()
	wantNext(t, q, all, all, 0, "abcd", false)
	wantLose(t, q, 2, 2, false, api.OK)
	wantFinish(t, q, api.OK)
	wantNext(t, q, 1, 0, 2, "c", false)
	wantNext(t, q, 1, 0, 3, "d", true)
	wantNone(t, q, all, all)

	// Behind lost bytes that don't, or ahead of them, where no byte can go.
	q = begun()
	wantNext(t, q, all, all, 0, "abcd", false)
	wantLose(t, q, 1, 2, false, api.OK)
	wantFinish(t, q, api.OK)
	wantNext(t, q, 1, all, 1, "b", false)
	wantNext(t, q, 0, all, 4, "", true)
	wantNone(t, q, 0, all)
	wantNext(t, q, 1, all, 2, "c", false)
	wantNone(t, q, all, all)

	// Behind bytes that are all done.
	q = begun()
	wantNext(t, q, all, all, 0, "abcd", false)
	wantAck(t, q, 0, 4, false, api.OK)
	wantFinish(t, q, api.OK)
	wantState(t, q, state{written: 4, sent: 4, base: 4, room: 8})
	wantNext(t, q, all, all, 4, "", true)
	wantState(t, q, state{written: 4, sent: 4, base: 4, room: 8})
	wantAck(t, q, 4, 0, true, api.OK)
	wantState(t, q, state{written: 4, sent: 4, base: 4, room: 8, done: true})
}

// P4.3, P4.4: an end that is out does not go out again, not even with lost bytes that go up to it.
func TestEndThatIsOut(t *testing.T) {
	for _, byItself := range []bool{false, true} {
		q := made(t, 8)
		wantWrite(t, q, "abcd", 4, api.OK)
		if byItself {
			wantNext(t, q, all, all, 0, "abcd", false)
			wantFinish(t, q, api.OK)
			wantNext(t, q, all, all, 4, "", true)
		} else {
			wantFinish(t, q, api.OK)
			wantNext(t, q, all, all, 0, "abcd", true)
		}
		wantNone(t, q, all, all)
		wantLose(t, q, 2, 2, false, api.OK)
		wantNone(t, q, 0, all)
		wantNext(t, q, all, all, 2, "cd", false)
		wantNone(t, q, all, all)
		wantAck(t, q, 0, 4, false, api.OK)
		wantState(t, q, state{written: 4, sent: 4, base: 4, room: 8})
		wantNone(t, q, all, all)
		wantLose(t, q, 4, 0, true, api.OK)
		wantNext(t, q, all, all, 4, "", true)
		wantAck(t, q, 4, 0, true, api.OK)
		wantState(t, q, state{written: 4, sent: 4, base: 4, room: 8, done: true})
	}
}

// P4.3, P4.4: an end that is lost, by which of the 4 bytes ahead of it are lost too.
func TestLostEnd(t *testing.T) {
	begun := func() *sendq.Queue {
		q := made(t, 4)
		wantWrite(t, q, "abcd", 4, api.OK)
		wantFinish(t, q, api.OK)
		wantNext(t, q, all, all, 0, "abcd", true)
		return q
	}

	// None, so that it goes by itself.
	for _, n := range []int{math.MinInt, -1, 0, 1, 4, math.MaxInt} {
		q := begun()
		wantLose(t, q, 4, 0, true, api.OK)
		wantNext(t, q, n, n, 4, "", true)
		wantNone(t, q, n, n)
	}

	// Those up to it.
	q := begun()
	wantLose(t, q, 1, 3, true, api.OK)
	wantNext(t, q, 2, 0, 1, "bc", false)
	wantNext(t, q, 2, 0, 3, "d", true)
	wantNone(t, q, all, all)

	// Those up to it, where no byte can go.
	q = begun()
	wantLose(t, q, 1, 3, true, api.OK)
	wantNext(t, q, 0, 0, 4, "", true)
	wantNone(t, q, 0, 0)
	wantNext(t, q, all, all, 1, "bcd", false)
	wantNone(t, q, all, all)

	// Others than those up to it: fin need not tell where the piece's end is.
	q = begun()
	wantLose(t, q, 0, 2, true, api.OK)
	wantNext(t, q, all, all, 0, "ab", false)
	wantNext(t, q, all, all, 4, "", true)
	wantNone(t, q, all, all)

	// Others, with a gap.
	q = begun()
	wantLose(t, q, 0, 1, true, api.OK)
	wantLose(t, q, 3, 1, false, api.OK)
	wantNext(t, q, all, all, 0, "a", false)
	wantNext(t, q, all, all, 3, "d", true)
	wantNone(t, q, all, all)

	// Told lost twice, it goes once; told done while lost, not at all.
	q = begun()
	wantLose(t, q, 4, 0, true, api.OK)
	wantLose(t, q, 4, 0, true, api.OK)
	wantNext(t, q, all, all, 4, "", true)
	wantNone(t, q, all, all)
	wantLose(t, q, 2, 2, true, api.OK)
	wantAck(t, q, 4, 0, true, api.OK)
	wantNext(t, q, all, all, 2, "cd", false)
	wantNone(t, q, all, all)
}

// P4.3, P4.4, P4.5: an end that is done stays so, and every byte counts beside it.
func TestDoneEnd(t *testing.T) {
	q := made(t, 4)
	wantWrite(t, q, "abcd", 4, api.OK)
	wantFinish(t, q, api.OK)
	wantNext(t, q, all, all, 0, "abcd", true)
	wantAck(t, q, 4, 0, true, api.OK)
	wantState(t, q, state{written: 4, sent: 4})
	wantLose(t, q, 0, 4, true, api.OK)
	wantNone(t, q, 0, 0)
	wantNext(t, q, all, all, 0, "abcd", false)
	wantNone(t, q, all, all)
	wantAck(t, q, 1, 3, false, api.OK)
	wantState(t, q, state{written: 4, sent: 4})
	wantAck(t, q, 0, 1, false, api.OK)
	wantState(t, q, state{written: 4, sent: 4, base: 4, room: 4, done: true})
	wantLose(t, q, 0, 4, true, api.OK)
	wantAck(t, q, 0, 4, true, api.OK)
	wantNone(t, q, all, all)
	wantState(t, q, state{written: 4, sent: 4, base: 4, room: 4, done: true})

	// With bytes that are not the last ones: fin need not tell where the piece's end is.
	q = made(t, 4)
	wantWrite(t, q, "abcd", 4, api.OK)
	wantFinish(t, q, api.OK)
	wantNext(t, q, all, all, 0, "abcd", true)
	wantAck(t, q, 0, 2, true, api.OK)
	wantState(t, q, state{written: 4, sent: 4, base: 2, room: 2})
	wantLose(t, q, 2, 2, true, api.OK)
	wantNext(t, q, all, all, 2, "cd", false)
	wantAck(t, q, 2, 2, false, api.OK)
	wantState(t, q, state{written: 4, sent: 4, base: 4, room: 4, done: true})
}

// P4.5: every byte is done, but the end is not set, fresh, out or lost.
func TestNotDoneWithoutTheEnd(t *testing.T) {
	q := made(t, 4)
	wantWrite(t, q, "ab", 2, api.OK)
	wantNext(t, q, all, all, 0, "ab", false)
	wantAck(t, q, 0, 2, false, api.OK)
	want := state{written: 2, sent: 2, base: 2, room: 4}
	wantState(t, q, want)
	wantFinish(t, q, api.OK)
	wantState(t, q, want)
	wantNext(t, q, all, all, 2, "", true)
	wantState(t, q, want)
	wantLose(t, q, 0, 2, true, api.OK)
	wantState(t, q, want)
	wantNext(t, q, all, all, 2, "", true)
	wantAck(t, q, 0, 2, true, api.OK)
	want.done = true
	wantState(t, q, want)
}

// wrongPieces can have gone out of no queue that sent 4 bytes.
var wrongPieces = []struct{ at, n int }{
	{-1, 0}, {-1, 1}, {-1, 2}, {-2, 5}, {0, -1}, {1, -1}, {4, -1}, {5, -1}, {6, -4}, {-1, -1}, {-1, math.MaxInt},
	{0, 5}, {1, 4}, {3, 2}, {4, 1}, {5, 0}, {0, 6}, {4, 2}, {6, 0}, {0, 7}, {6, 1}, {7, 0},
	{0, math.MaxInt}, {1, math.MaxInt}, {2, math.MaxInt}, {4, math.MaxInt}, {5, math.MaxInt}, {math.MaxInt, 0}, {math.MaxInt, 1},
	{math.MaxInt, 4}, {math.MaxInt, math.MaxInt}, {math.MaxInt - 1, 3}, {math.MaxInt, math.MinInt}, {math.MinInt, math.MaxInt},
	{math.MinInt, math.MinInt}, {math.MinInt, 0}, {0, math.MinInt}, {4, math.MinInt}, {math.MinInt, 4}, {math.MinInt + 2, -2},
	{api.MaxNum, 0}, {0, api.MaxNum}, {api.MaxNum, api.MaxNum}, {api.MaxNum + 1, api.MaxNum + 1}, {1 << 32, 0}, {0, 1 << 32},
}

// P4.4: pieces that can't have gone out are refused, and nothing changes.
func TestWrongPiecesAreRefused(t *testing.T) {
	for _, piece := range wrongPieces {
		for _, fin := range []bool{false, true} {
			q := made(t, 8)
			wantWrite(t, q, "abcdef", 6, api.OK)
			wantNext(t, q, 4, all, 0, "abcd", false)
			wantLose(t, q, 0, 1, false, api.OK)
			wantAck(t, q, piece.at, piece.n, fin, api.ErrRange)
			wantLose(t, q, piece.at, piece.n, fin, api.ErrRange)
			wantState(t, q, state{written: 6, sent: 4, room: 2})
			wantNext(t, q, all, all, 0, "a", false)
			wantNext(t, q, all, all, 4, "ef", false)
			wantNone(t, q, all, all)
		}
	}
}

// P4.4: the same with an end that is out.
func TestWrongPiecesAreRefusedWithTheEndOut(t *testing.T) {
	for _, piece := range wrongPieces {
		q := made(t, 4)
		wantWrite(t, q, "abcd", 4, api.OK)
		wantFinish(t, q, api.OK)
		wantNext(t, q, 4, all, 0, "abcd", true)
		wantAck(t, q, 0, 1, false, api.OK)
		wantAck(t, q, piece.at, piece.n, true, api.ErrRange)
		wantLose(t, q, piece.at, piece.n, true, api.ErrRange)
		wantState(t, q, state{written: 4, sent: 4, base: 1, room: 1})
		wantNone(t, q, all, all)
		wantAck(t, q, 1, 3, false, api.OK)
		wantState(t, q, state{written: 4, sent: 4, base: 4, room: 4})
	}
}

// P4.4: fin before the end went out is refused, with pieces that are right else; the bytes of them stay as they were.
func TestFinBeforeTheEndWentOut(t *testing.T) {
	for _, finished := range []bool{false, true} {
		for _, c := range []struct{ at, n int }{{0, 0}, {0, 1}, {0, 3}, {2, 1}, {3, 0}, {1, 1}} {
			q := made(t, 4)
			wantWrite(t, q, "abcd", 4, api.OK)
			wantNext(t, q, 3, all, 0, "abc", false)
			if finished {
				wantFinish(t, q, api.OK)
			}
			wantAck(t, q, c.at, c.n, true, api.ErrRange)
			wantLose(t, q, c.at, c.n, true, api.ErrRange)
			wantState(t, q, state{written: 4, sent: 3})
			wantNext(t, q, all, all, 3, "d", finished)
			wantNone(t, q, all, all)
			wantAck(t, q, 0, 4, finished, api.OK)
			wantState(t, q, state{written: 4, sent: 4, base: 4, room: 4, done: finished})
		}
	}
}

// P4.4: the end went out before sent was anything but 0: fin of an empty piece at 0 is right then, at 1 it is not.
func TestPiecesOfTheEndAlone(t *testing.T) {
	q := made(t, 4)
	wantFinish(t, q, api.OK)
	wantNext(t, q, all, all, 0, "", true)
	wantAck(t, q, 1, 0, true, api.ErrRange)
	wantAck(t, q, 0, 1, true, api.ErrRange)
	wantLose(t, q, 1, 0, true, api.ErrRange)
	wantNone(t, q, all, all)
	wantState(t, q, state{room: 4})
	wantAck(t, q, 0, 0, true, api.OK)
	wantState(t, q, state{room: 4, done: true})
}

// P4.4, P4.5: pieces with their ends up to sent are right, empty ones change nothing.
func TestEmptyPieces(t *testing.T) {
	q := made(t, 8)
	wantWrite(t, q, "abcdef", 6, api.OK)
	wantNext(t, q, 4, all, 0, "abcd", false)
	for at := range 5 {
		wantAck(t, q, at, 0, false, api.OK)
		wantLose(t, q, at, 0, false, api.OK)
	}
	wantState(t, q, state{written: 6, sent: 4, room: 2})
	wantNext(t, q, all, all, 4, "ef", false)
	wantNone(t, q, all, all)
}

// P4.4, P4.5: the base moves over bytes that are done, and over no others.
func TestBaseMovesOverDoneBytesOnly(t *testing.T) {
	q := made(t, 10)
	wantWrite(t, q, "abcdefghij", 10, api.OK)
	wantNext(t, q, 8, all, 0, "abcdefgh", false)
	for _, c := range []struct{ at, n, base int }{
		{1, 1, 0}, {3, 2, 0}, {7, 1, 0}, {1, 1, 0}, {0, 1, 2}, {0, 2, 2}, {4, 2, 2}, {1, 2, 6}, {0, 3, 6}, {7, 1, 6}, {6, 1, 8}, {0, 8, 8}, {8, 0, 8},
	} {
		wantAck(t, q, c.at, c.n, false, api.OK)
		wantState(t, q, state{written: 10, sent: 8, base: c.base, room: c.base})
		wantNone(t, q, all, 8)
	}
	wantNext(t, q, all, all, 8, "ij", false)
}

// P4.4: by what is known of the 6 bytes that a piece lies on: fresh ones there can't be; "a" is out, "bc" lost, "d" done, "e" lost, "f" out.
func TestAckAndLoseByWhatIsKnown(t *testing.T) {
	for _, c := range []struct {
		name        string
		ack         bool
		at, n, base int
		chunks      []string // what goes out then, each with its place ahead
	}{
		{"lose nothing", false, 3, 0, 0, []string{"1bc", "4e"}},
		{"lose out", false, 0, 1, 0, []string{"0abc", "4e"}},
		{"lose lost", false, 1, 2, 0, []string{"1bc", "4e"}},
		{"lose done", false, 3, 1, 0, []string{"1bc", "4e"}},
		{"lose the last", false, 5, 1, 0, []string{"1bc", "4ef"}},
		{"lose all", false, 0, 6, 0, []string{"0abc", "4ef"}},
		{"lose over done", false, 2, 3, 0, []string{"1bc", "4e"}},
		{"ack nothing", true, 2, 0, 0, []string{"1bc", "4e"}},
		{"ack out", true, 0, 1, 1, []string{"1bc", "4e"}},
		{"ack one lost", true, 2, 1, 0, []string{"1b", "4e"}},
		{"ack the other lost", true, 1, 1, 0, []string{"2c", "4e"}},
		{"ack lost", true, 1, 2, 0, []string{"4e"}},
		{"ack done", true, 3, 1, 0, []string{"1bc", "4e"}},
		{"ack out and lost", true, 0, 3, 4, []string{"4e"}},
		{"ack out and some lost", true, 0, 2, 2, []string{"2c", "4e"}},
		{"ack all lost", true, 1, 4, 0, nil},
		{"ack the last", true, 5, 1, 0, []string{"1bc", "4e"}},
		{"ack all", true, 0, 6, 6, nil},
	} {
		t.Run(c.name, func(t *testing.T) {
			q := made(t, 8)
			wantWrite(t, q, "abcdefgh", 8, api.OK)
			wantNext(t, q, 6, all, 0, "abcdef", false)
			wantLose(t, q, 1, 2, false, api.OK)
			wantAck(t, q, 3, 1, false, api.OK)
			wantLose(t, q, 4, 1, false, api.OK)
			if c.ack {
				wantAck(t, q, c.at, c.n, false, api.OK)
				wantAck(t, q, c.at, c.n, false, api.OK)
				wantLose(t, q, c.at, c.n, false, api.OK)
			} else {
				wantLose(t, q, c.at, c.n, false, api.OK)
				wantLose(t, q, c.at, c.n, false, api.OK)
			}
			wantState(t, q, state{written: 8, sent: 6, base: c.base, room: c.base})
			for _, chunk := range c.chunks {
				wantNext(t, q, all, 0, int(chunk[0]-'0'), chunk[1:], false)
			}
			wantNone(t, q, all, 0)
			wantState(t, q, state{written: 8, sent: 6, base: c.base, room: c.base})
			wantNext(t, q, all, all, 6, "gh", false)
			wantNone(t, q, all, all)
		})
	}
}

// P4.4: pieces below the base, or over it, long after its bytes are gone.
func TestPiecesBelowTheBase(t *testing.T) {
	q := made(t, 4)
	wantWrite(t, q, "abcd", 4, api.OK)
	wantNext(t, q, all, all, 0, "abcd", false)
	wantAck(t, q, 0, 3, false, api.OK)
	wantWrite(t, q, "efg", 3, api.OK)
	wantNext(t, q, all, all, 4, "efg", false)
	want := state{written: 7, sent: 7, base: 3}
	wantState(t, q, want)
	for _, c := range []struct{ at, n int }{{0, 0}, {0, 1}, {0, 3}, {2, 1}, {1, 2}, {3, 0}} {
		wantLose(t, q, c.at, c.n, false, api.OK)
		wantAck(t, q, c.at, c.n, false, api.OK)
		wantState(t, q, want)
		wantNone(t, q, all, all)
	}
	wantLose(t, q, 1, 4, false, api.OK)
	wantNext(t, q, all, all, 3, "de", false)
	wantLose(t, q, 0, 7, false, api.OK)
	wantNext(t, q, all, all, 3, "defg", false)
	wantAck(t, q, 2, 3, false, api.OK)
	wantState(t, q, state{written: 7, sent: 7, base: 5, room: 2})
	wantNone(t, q, all, all)
}

// P4.3, P4.4: far more pieces than a set has spans; each is lost, or done, by itself.
func TestManyPieces(t *testing.T) {
	q := made(t, api.MaxRoom)
	var text strings.Builder
	for i := range api.MaxRoom {
		text.WriteByte(byte('a' + i%23))
	}
	whole := text.String()
	wantWrite(t, q, whole, api.MaxRoom, api.OK)
	wantFinish(t, q, api.OK)
	wantNext(t, q, all, all, 0, whole, true)
	for at := api.MaxRoom - 2; at >= 0; at -= 2 {
		wantLose(t, q, at, 1, false, api.OK)
	}
	for at := 0; at < api.MaxRoom; at += 2 {
		wantNext(t, q, all, all, at, whole[at:at+1], false)
	}
	wantNone(t, q, all, all)
	for at := api.MaxRoom - 1; at >= 0; at -= 2 {
		wantAck(t, q, at, 1, false, api.OK)
	}
	wantState(t, q, state{written: api.MaxRoom, sent: api.MaxRoom})
	wantLose(t, q, 0, api.MaxRoom, true, api.OK)
	for at := 0; at < api.MaxRoom; at += 2 {
		wantNext(t, q, all, all, at, whole[at:at+1], false)
		wantAck(t, q, at, 1, false, api.OK)
		wantState(t, q, state{written: api.MaxRoom, sent: api.MaxRoom, base: at + 2, room: at + 2})
	}
	wantNext(t, q, all, all, api.MaxRoom, "", true)
	wantAck(t, q, 0, 0, true, api.OK)
	wantState(t, q, state{written: api.MaxRoom, sent: api.MaxRoom, base: api.MaxRoom, room: api.MaxRoom, done: true})
}

// P4.1 to P4.5: a stream much longer than the room, a byte at a time.
func TestStreamLongerThanTheRoom(t *testing.T) {
	q := made(t, 3)
	for at := range 10000 {
		c := string(rune('a' + at%26))
		wantWrite(t, q, c, 1, api.OK)
		wantNext(t, q, all, all, at, c, false)
		if at >= 2 {
			wantLose(t, q, at-2, 1, false, api.OK)
			wantNext(t, q, all, all, at-2, string(rune('a'+(at-2)%26)), false)
			wantAck(t, q, at-2, 1, false, api.OK)
			wantState(t, q, state{written: at + 1, sent: at + 1, base: at - 1, room: 1})
		}
	}
}

// P4.2, P4.3: a byte 0 is a byte as any other.
func TestNoughtBytesAreBytes(t *testing.T) {
	q := made(t, 4)
	wantWrite(t, q, "\x00\x01\x02\x03", 4, api.OK)
	wantNext(t, q, all, all, 0, "\x00\x01\x02\x03", false)
	wantLose(t, q, 0, 1, false, api.OK)
	wantLose(t, q, 2, 2, false, api.OK)
	wantNext(t, q, all, all, 0, "\x00", false)
	wantNext(t, q, all, all, 2, "\x02\x03", false)
	wantNone(t, q, all, all)
}

// spare is what stands in the spare room of what is handed in.
const spare = "~~~~~~~~"

// padded: data in front of spare room, which is full of bytes too.
func padded(data string) []byte {
	whole := []byte(data + spare)
	return whole[:len(data):len(whole)]
}

// spoil changes every byte of the list and of its spare room.
func spoil(data []byte) {
	whole := data[:cap(data)]
	for i := range whole {
		whole[i] = '!'
	}
}

// P4.6: what is handed in is not changed and not kept, its spare room neither.
func TestWriteKeepsAndChangesNothingOfItsArgument(t *testing.T) {
	q := made(t, 10)
	for _, c := range []struct {
		data string
		n    int
	}{
		{"abcd", 4}, {"", 0}, {"efg", 3}, {"hijklm", 3}, {"x", 0},
	} {
		data := padded(c.data)
		if n, e := q.Write(data); n != c.n || e != api.OK {
			t.Errorf("Write(%q): %d, %d", c.data, n, e)
		}
		if string(data[:cap(data)]) != c.data+spare {
			t.Errorf("Write(%q) made of its argument %q", c.data, data[:cap(data)])
		}
		spoil(data)
	}
	wantNext(t, q, all, all, 0, "abcdefghij", false)
	wantLose(t, q, 0, 10, false, api.OK)
	wantNext(t, q, all, all, 0, "abcdefghij", false)

	// The same once everything was done and the queue is empty again, and with a write that is refused.
	wantAck(t, q, 0, 10, false, api.OK)
	data := padded("klm")
	if n, e := q.Write(data); n != 3 || e != api.OK {
		t.Errorf("Write: %d, %d", n, e)
	}
	wantWrite(t, q, "no", 2, api.OK)
	wantFinish(t, q, api.OK)
	if _, e := q.Write(data); e != api.ErrDone {
		t.Errorf("Write: %d", e)
	}
	if string(data[:cap(data)]) != "klm"+spare {
		t.Errorf("Write made of its argument %q", data[:cap(data)])
	}
	spoil(data)
	wantNext(t, q, all, all, 10, "klmno", true)
}

// P4.6: what is told is new memory, spare room too.
func TestNextTellsNewMemory(t *testing.T) {
	q := made(t, 10)
	wantWrite(t, q, "abcdefgh", 8, api.OK)
	_, first, _, _ := q.Next(3, all)
	spoil(first)
	_, second, _, _ := q.Next(2, all)
	spoil(first)
	if string(second) != "de" {
		t.Errorf("two answers share memory: %q", second)
	}
	wantLose(t, q, 0, 5, false, api.OK)
	_, again, _, _ := q.Next(all, all)
	if string(again) != "abcde" {
		t.Errorf("what was told is kept: %q", again)
	}
	spoil(first)
	spoil(second)
	if string(again) != "abcde" {
		t.Errorf("two answers share memory: %q", again)
	}
	spoil(again)
	wantNext(t, q, all, all, 5, "fgh", false)
	wantAck(t, q, 0, 6, false, api.OK)
	wantWrite(t, q, "ijklmnop", 8, api.OK)
	if string(first) != "!!!" || string(second) != "!!" || string(again) != "!!!!!" {
		t.Errorf("what was told changes with the queue: %q, %q, %q", first, second, again)
	}
	spoil(again)
	wantLose(t, q, 0, 8, false, api.OK)
	wantNext(t, q, all, all, 6, "gh", false)
	wantFinish(t, q, api.OK)
	wantNext(t, q, all, all, 8, "ijklmnop", true)

	wantLose(t, q, 8, 0, true, api.OK)
	_, none, fin, _ := q.Next(all, all)
	if len(none) != 0 || !fin {
		t.Errorf("Next: %q, %v", none, fin)
	}
	spoil(none)
	wantLose(t, q, 0, 16, true, api.OK)
	wantNext(t, q, all, all, 6, "ghijklmnop", true)
}

// P4.1: queues are on their own.
func TestQueuesAreOnTheirOwn(t *testing.T) {
	one, two := made(t, 4), made(t, 3)
	wantWrite(t, one, "ab", 2, api.OK)
	wantWrite(t, two, "xyz", 3, api.OK)
	wantFinish(t, two, api.OK)
	wantNext(t, two, all, all, 0, "xyz", true)
	wantAck(t, two, 0, 3, true, api.OK)
	wantState(t, one, state{written: 2, room: 2})
	wantState(t, two, state{written: 3, sent: 3, base: 3, room: 3, done: true})
	wantWrite(t, one, "c", 1, api.OK)
	wantNext(t, one, all, all, 0, "abc", false)
}

// P1: no call panics, whatever numbers it is given and in whatever state the queue is.
func TestNoCallPanics(t *testing.T) {
	numbers := []int{math.MinInt, math.MinInt + 1, -api.MaxNum, -1, 0, 1, 2, 3, 4, 5,
		api.MaxRoom - 1, api.MaxRoom, api.MaxRoom + 1, api.MaxNum - 1, api.MaxNum, api.MaxNum + 1, math.MaxInt - 1, math.MaxInt}
	for _, room := range numbers {
		q, e := sendq.New(room)
		if e != api.OK {
			continue
		}
		for _, one := range numbers {
			for _, other := range numbers {
				q.Write([]byte("ab"))
				q.Lose(one, other, false)
				q.Next(one, other)
				q.Lose(one, other, true)
				q.Next(other, one)
				q.Ack(one, other, true)
				q.Next(one, other)
				q.Ack(one, other, false)
				if one == 5 && other == 5 {
					q.Finish()
				}
			}
		}
	}
}

// What a model knows of a byte, or of the end.
const (
	isFresh = "fresh"
	isOut   = "out"
	isLost  = "lost"
	isDone  = "done"
	isUnset = ""
)

// model is a queue as the chapter says it, with all bytes that were ever written.
type model struct {
	room, sent int
	bytes      string
	marks      []string
	end        string
}

// base: the number of the first byte that is not done.
func (m *model) base() int {
	for i, mark := range m.marks {
		if mark != isDone {
			return i
		}
	}
	return len(m.marks)
}

// state: as Written, Sent, Base, Room and Done.
func (m *model) state() state {
	written, base := len(m.bytes), m.base()
	return state{written, m.sent, base, m.room - written + base, m.end == isDone && base == written}
}

// write: as Write.
func (m *model) write(data string) (n int, e api.Errno) {
	if m.end != isUnset {
		return 0, api.ErrDone
	}
	for n < len(data) && m.state().room > 0 {
		m.bytes += data[n : n+1]
		m.marks = append(m.marks, isFresh)
		n++
	}
	return n, api.OK
}

// finish: as Finish.
func (m *model) finish() api.Errno {
	if m.end != isUnset {
		return api.ErrDone
	}
	m.end = isFresh
	return api.OK
}

// first: the place of the first byte of this mark, which all have to be below the limit.
func (m *model) first(mark string, limit int) (int, bool) {
	for i := 0; i < len(m.marks) && i < limit; i++ {
		if m.marks[i] == mark {
			return i, true
		}
	}
	return 0, false
}

// chunk is what Next answers.
type chunk struct {
	at      int
	data    string
	fin, ok bool
}

// next: as Next.
func (m *model) next(most, limit int) chunk {
	endWaits := m.end == isFresh || m.end == isLost
	mark := isLost
	at, found := m.first(isLost, len(m.marks))
	if found {
		limit = len(m.marks)
	} else {
		mark = isFresh
		at, found = m.first(isFresh, limit)
	}
	if !found || most < 1 {
		_, waiting := m.first(isFresh, len(m.marks))
		if !endWaits || waiting {
			return chunk{}
		}
		m.end = isOut
		return chunk{len(m.bytes), "", true, true}
	}
	to := at
	for to < len(m.marks) && to < limit && to-at < most && m.marks[to] == mark {
		m.marks[to] = isOut
		to++
	}
	m.sent = max(m.sent, to)
	fin := endWaits && to == len(m.bytes)
	if fin {
		m.end = isOut
	}
	return chunk{at, m.bytes[at:to], fin, true}
}

// told: as Ack and Lose.
func (m *model) told(at, n int, fin, arrived bool) api.Errno {
	if at < 0 || n < 0 || at+n > m.sent || fin && (m.end == isUnset || m.end == isFresh) {
		return api.ErrRange
	}
	for i := at; i < at+n; i++ {
		m.marks[i] = after(m.marks[i], arrived)
	}
	if fin {
		m.end = after(m.end, arrived)
	}
	return api.OK
}

// after: the mark behind Ack or Lose.
func after(mark string, arrived bool) string {
	if arrived {
		return isDone
	}
	if mark == isOut {
		return isLost
	}
	return mark
}

// step makes one call of a queue and of its model.
func step(t *testing.T, rng *rand.Rand, q *sendq.Queue, m *model) {
	t.Helper()
	written := len(m.bytes)
	at, n, fin := rng.Intn(written+2)-rng.Intn(12)/11, rng.Intn(5)-rng.Intn(12)/11, rng.Intn(3) == 0
	if rng.Intn(2) == 0 {
		at = max(0, written-rng.Intn(m.room+2))
	}
	switch kind := rng.Intn(40); {
	case kind == 0:
		wantFinish(t, q, m.finish())
	case kind < 12:
		data := "abcdefghijklmnopqrstuvwxyz"[rng.Intn(20):][:rng.Intn(6)]
		n, e := m.write(data)
		wantWrite(t, q, data, n, e)
	case kind < 24:
		most, limit := rng.Intn(6)-rng.Intn(8)/7, m.sent+rng.Intn(8)-2
		want := m.next(most, limit)
		at, data, fin, ok := q.Next(most, limit)
		if got := (chunk{at, string(data), fin, ok}); got != want {
			t.Errorf("Next(%d, %d): %+v; want %+v", most, limit, got, want)
		}
	case kind < 32:
		wantLose(t, q, at, n, fin, m.told(at, n, fin, false))
	default:
		wantAck(t, q, at, n, fin, m.told(at, n, fin, true))
	}
}

// P4.1 to P4.5: a plain model of a queue beside the package's, over calls of all kinds.
func TestQueueIsAsItsModel(t *testing.T) {
	rng := rand.New(rand.NewSource(4))
	ended := 0
	for range 3000 {
		m := &model{room: 1 + rng.Intn(9)}
		q := made(t, m.room)
		for range 120 {
			step(t, rng, q, m)
			wantState(t, q, m.state())
			if t.Failed() {
				return
			}
		}
		if q.Done() {
			ended++
		}
	}
	if ended < 300 {
		t.Errorf("only %d queues came to their end", ended)
	}
}

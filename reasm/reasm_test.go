package reasm_test

import (
	"bytes"
	"math"
	"math/rand"
	"strings"
	"testing"

	"turnpike/api"
	"turnpike/reasm"
)

// made: a new buffer, which must be made.
func made(t *testing.T, room int) *reasm.Buffer {
	t.Helper()
	b, e := reasm.New(room)
	if b == nil || e != api.OK {
		t.Fatalf("New(%d): %v, %d", room, b, e)
	}
	return b
}

// wantPut asks Put for one answer.
func wantPut(t *testing.T, b *reasm.Buffer, at int, data string, fin bool, fresh int, e api.Errno) {
	t.Helper()
	if got, gotE := b.Put(at, []byte(data), fin); got != fresh || gotE != e {
		t.Errorf("Put(%d, %.20q, %v): %d, %d; want %d, %d", at, data, fin, got, gotE, fresh, e)
	}
}

// wantRead asks Read for one answer.
func wantRead(t *testing.T, b *reasm.Buffer, n int, data string, end bool) {
	t.Helper()
	if got, gotEnd := b.Read(n); string(got) != data || gotEnd != end {
		t.Errorf("Read(%d): %.20q, %v; want %.20q, %v", n, got, gotEnd, data, end)
	}
}

// state is all that a buffer tells without being read; a final size below 0 is one that isn't known.
type state struct{ ready, offset, high, held, final int }

// wantState asks for all that a buffer tells, twice: to be asked changes nothing.
func wantState(t *testing.T, b *reasm.Buffer, want state) {
	t.Helper()
	for range 2 {
		got := state{b.Ready(), b.Offset(), b.High(), b.Held(), -1}
		final, known := b.Final()
		if known {
			got.final = final
		} else if final != 0 {
			t.Errorf("Final: %d, false", final)
		}
		if got != want {
			t.Errorf("state %+v; want %+v", got, want)
		}
	}
}

// P3.1, P3.4
func TestNewMakesAnEmptyBuffer(t *testing.T) {
	for _, room := range []int{1, 2, 8, api.MaxRoom - 1, api.MaxRoom} {
		b := made(t, room)
		wantState(t, b, state{final: -1})
		wantRead(t, b, 1, "", false)
		wantState(t, b, state{final: -1})
	}
}

// P3.1
func TestNewRefusesTooLittleAndTooMuchRoom(t *testing.T) {
	for _, room := range []int{0, -1, -2, -api.MaxRoom, math.MinInt, api.MaxRoom + 1, api.MaxRoom + 2, api.MaxNum, math.MaxInt} {
		if b, e := reasm.New(room); b != nil || e != api.ErrMost {
			t.Errorf("New(%d): %v, %d", room, b, e)
		}
	}
}

// P3.1, P3.2: the room is what New was told, ahead of the first Read and behind it.
func TestRoomIsWhatNewWasTold(t *testing.T) {
	for _, room := range []int{1, 2, 3, 8, 1000, api.MaxRoom - 1, api.MaxRoom} {
		b := made(t, room)
		full := strings.Repeat("a", room)
		wantPut(t, b, 0, full+"a", false, 0, api.ErrRoom)
		wantPut(t, b, room+1, "", false, 0, api.ErrRoom)
		wantPut(t, b, room, "a", false, 0, api.ErrRoom)
		wantState(t, b, state{final: -1})
		wantPut(t, b, 0, full, false, room, api.OK)
		wantState(t, b, state{ready: room, high: room, held: room, final: -1})
		wantPut(t, b, room, "", false, 0, api.OK)
		wantPut(t, b, room, "b", false, 0, api.ErrRoom)
		wantRead(t, b, 1, "a", false)
		wantPut(t, b, room, "bb", false, 0, api.ErrRoom)
		wantPut(t, b, room, "b", false, 1, api.OK)
		wantState(t, b, state{ready: room, offset: 1, high: room + 1, held: room, final: -1})
		wantRead(t, b, math.MaxInt, full[1:]+"b", false)
		wantState(t, b, state{offset: room + 1, high: room + 1, final: -1})
	}
}

// P3.2, P3.3, P3.4: the chapter's example.
func TestExample(t *testing.T) {
	b := made(t, 8)
	wantPut(t, b, 2, "cd", false, 2, api.OK)
	wantState(t, b, state{ready: 0, high: 4, held: 2, final: -1})
	wantPut(t, b, 0, "xbx", false, 2, api.OK)
	wantState(t, b, state{ready: 4, high: 4, held: 4, final: -1})
	wantRead(t, b, 9, "xbcd", false)
	wantState(t, b, state{offset: 4, high: 4, final: -1})
	wantPut(t, b, 4, "ef", true, 2, api.OK)
	wantPut(t, b, 6, "", false, 0, api.OK)
	wantPut(t, b, 5, "fg", false, 0, api.ErrFinal)
	wantState(t, b, state{ready: 2, offset: 4, high: 6, held: 2, final: 6})
	wantRead(t, b, 9, "ef", true)
	wantPut(t, b, 12, "", false, 0, api.ErrFinal)
	wantPut(t, b, 12, "z", true, 0, api.ErrFinal)
	wantState(t, b, state{offset: 6, high: 6, final: 6})
}

// P3.2, P3.4: how a piece may lie to those that are there: "BC" at 1, "FGH" at 5, and the offset at 0.
func TestPutByWhereThePieceLies(t *testing.T) {
	for _, c := range []struct {
		name   string
		at     int
		data   string
		fresh  int
		want   state
		read   string
		second string // what is read once all gaps are filled with dots
	}{
		{"empty at the offset", 0, "", 0, state{0, 0, 8, 5, -1}, "", ".BC..FGH...."},
		{"empty in a gap", 4, "", 0, state{0, 0, 8, 5, -1}, "", ".BC..FGH...."},
		{"empty at the high", 8, "", 0, state{0, 0, 8, 5, -1}, "", ".BC..FGH...."},
		{"empty above the high", 11, "", 0, state{0, 0, 11, 5, -1}, "", ".BC..FGH...."},
		{"empty at the room", 12, "", 0, state{0, 0, 12, 5, -1}, "", ".BC..FGH...."},
		{"fills the first gap", 0, "a", 1, state{3, 0, 8, 6, -1}, "aBC", "aBC..FGH...."},
		{"over the first gap", 0, "ab", 1, state{3, 0, 8, 6, -1}, "aBC", "aBC..FGH...."},
		{"touches from above", 3, "d", 1, state{0, 0, 8, 6, -1}, "", ".BCd.FGH...."},
		{"touches from below", 4, "e", 1, state{0, 0, 8, 6, -1}, "", ".BC.eFGH...."},
		{"fills the second gap", 3, "de", 2, state{0, 0, 8, 7, -1}, "", ".BCdeFGH...."},
		{"over the second gap", 2, "cdef", 2, state{0, 0, 8, 7, -1}, "", ".BCdeFGH...."},
		{"over both gaps", 0, "abcdef", 3, state{8, 0, 8, 8, -1}, "aBCdeFGH", "aBCdeFGH...."},
		{"the same bytes", 1, "BC", 0, state{0, 0, 8, 5, -1}, "", ".BC..FGH...."},
		{"other bytes", 5, "xyz", 0, state{0, 0, 8, 5, -1}, "", ".BC..FGH...."},
		{"one byte within", 6, "x", 0, state{0, 0, 8, 5, -1}, "", ".BC..FGH...."},
		{"out of the last", 7, "xi", 1, state{0, 0, 9, 6, -1}, "", ".BC..FGHi..."},
		{"behind the last", 8, "i", 1, state{0, 0, 9, 6, -1}, "", ".BC..FGHi..."},
		{"behind the last with a gap", 9, "jk", 2, state{0, 0, 11, 7, -1}, "", ".BC..FGH.jk."},
		{"up to the room", 8, "ijkl", 4, state{0, 0, 12, 9, -1}, "", ".BC..FGHijkl"},
		{"the last of the room", 11, "l", 1, state{0, 0, 12, 6, -1}, "", ".BC..FGH...l"},
		{"around all", 0, "abcdefghijkl", 7, state{12, 0, 12, 12, -1}, "aBCdeFGHijkl", "aBCdeFGHijkl"},
	} {
		t.Run(c.name, func(t *testing.T) {
			b := made(t, 12)
			wantPut(t, b, 5, "FGH", false, 3, api.OK)
			wantPut(t, b, 1, "BC", false, 2, api.OK)
			wantPut(t, b, c.at, c.data, false, c.fresh, api.OK)
			wantState(t, b, c.want)
			wantPut(t, b, c.at, strings.ToUpper(c.data), false, 0, api.OK)
			wantState(t, b, c.want)
			wantRead(t, b, 100, c.read, false)
			wantPut(t, b, 0, "............", true, 12-c.want.held, api.OK)
			wantRead(t, b, 100, c.second[len(c.read):], true)
			wantState(t, b, state{offset: 12, high: 12, final: 12})
		})
	}
}

// P3.2: what lies below the offset is passed over, and the rest of the piece taken.
func TestPutBelowTheOffset(t *testing.T) {
	for _, c := range []struct {
		at, fresh int
		data      string
		want      state
		read      string
	}{
		{0, 0, "", state{0, 4, 4, 0, -1}, ""},
		{3, 0, "", state{0, 4, 4, 0, -1}, ""},
		{4, 0, "", state{0, 4, 4, 0, -1}, ""},
		{0, 0, "w", state{0, 4, 4, 0, -1}, ""},
		{1, 0, "xy", state{0, 4, 4, 0, -1}, ""},
		{0, 0, "wxyz", state{0, 4, 4, 0, -1}, ""},
		{3, 0, "z", state{0, 4, 4, 0, -1}, ""},
		{0, 1, "wxyze", state{1, 4, 5, 1, -1}, "e"},
		{3, 1, "ze", state{1, 4, 5, 1, -1}, "e"},
		{3, 4, "zefgh", state{4, 4, 8, 4, -1}, "efgh"},
		{0, 8, "wxyzefghijkl", state{8, 4, 12, 8, -1}, "efghijkl"},
		{4, 8, "efghijkl", state{8, 4, 12, 8, -1}, "efghijkl"},
		{5, 7, "fghijkl", state{0, 4, 12, 7, -1}, ""},
		{11, 1, "l", state{0, 4, 12, 1, -1}, ""},
		{12, 0, "", state{0, 4, 12, 0, -1}, ""},
	} {
		b := made(t, 8)
		wantPut(t, b, 0, "abcd", false, 4, api.OK)
		wantRead(t, b, 4, "abcd", false)
		wantPut(t, b, c.at, c.data, false, c.fresh, api.OK)
		wantState(t, b, c.want)
		wantRead(t, b, 100, c.read, false)
	}
}

// P3.2, P1: a piece that begins far below the offset and is much longer than the room.
func TestPutOfAPieceLongerThanTheRoom(t *testing.T) {
	b := made(t, 3)
	sent := strings.Repeat("0123456789", 20)
	for at := 0; at+3 <= len(sent); at += 3 {
		wantPut(t, b, 0, sent[:at+4], false, 0, api.ErrRoom)
		wantPut(t, b, 0, sent[:at+3], false, 3, api.OK)
		wantRead(t, b, 3, sent[at:at+3], false)
	}
	wantState(t, b, state{offset: 198, high: 198, final: -1})
}

// P3.2: a byte that was taken stays, whatever comes later.
func TestTakenBytesStay(t *testing.T) {
	b := made(t, 10)
	wantPut(t, b, 3, "D", false, 1, api.OK)
	wantPut(t, b, 2, "xyz", false, 2, api.OK)
	wantPut(t, b, 0, "......", false, 3, api.OK)
	wantPut(t, b, 0, "??????????", true, 4, api.OK)
	wantPut(t, b, 0, "!!!!!!!!!!", true, 0, api.OK)
	wantRead(t, b, 4, "..xD", false)
	wantPut(t, b, 0, "##########", false, 0, api.OK)
	wantRead(t, b, 10, "z.????", true)
}

// P3.2: a byte 0 that was taken is taken as any other.
func TestNoughtBytesAreBytes(t *testing.T) {
	b := made(t, 4)
	wantPut(t, b, 1, "\x00", false, 1, api.OK)
	wantPut(t, b, 0, "\xffa\x00", false, 2, api.OK)
	wantRead(t, b, 4, "\xff\x00\x00", false)
}

// P3.2: far more gaps than a set has spans; none of them counts as taken.
func TestManyGaps(t *testing.T) {
	b := made(t, api.MaxRoom)
	half := api.MaxRoom / 2
	for i := range half {
		wantPut(t, b, 2*i+1, string(rune('a'+i%26)), false, 1, api.OK)
	}
	wantState(t, b, state{high: api.MaxRoom, held: half, final: -1})
	wantRead(t, b, api.MaxRoom, "", false)
	for i := range half {
		wantPut(t, b, 2*i+1, "?", false, 0, api.OK)
	}
	for i := half - 1; i > 0; i-- {
		wantPut(t, b, 2*i, "-", false, 1, api.OK)
	}
	wantState(t, b, state{high: api.MaxRoom, held: api.MaxRoom - 1, final: -1})
	wantPut(t, b, 0, "-", false, 1, api.OK)
	var want strings.Builder
	for i := range half {
		want.WriteString("-" + string(rune('a'+i%26)))
	}
	wantRead(t, b, api.MaxRoom, want.String(), false)
}

// P3.2: places that no stream has.
func TestPutRefusesPlacesOutOfRange(t *testing.T) {
	for _, c := range []struct {
		at   int
		data string
		e    api.Errno
	}{
		{-1, "", api.ErrRange},
		{-1, "ab", api.ErrRange},
		{-2, "abcdef", api.ErrRange},
		{math.MinInt, "", api.ErrRange},
		{math.MinInt, "a", api.ErrRange},
		{api.MaxNum + 1, "", api.ErrRange},
		{api.MaxNum, "a", api.ErrRange},
		{api.MaxNum - 1, "ab", api.ErrRange},
		{api.MaxNum - 2, "abcd", api.ErrRange},
		{math.MaxInt, "", api.ErrRange},
		{math.MaxInt, "a", api.ErrRange},
		{math.MaxInt - 1, "abc", api.ErrRange},
		{api.MaxNum, "", api.ErrRoom},
		{api.MaxNum - 1, "a", api.ErrRoom},
		{api.MaxNum - 3, "abc", api.ErrRoom},
	} {
		for _, fin := range []bool{false, true} {
			b := made(t, api.MaxRoom)
			wantPut(t, b, c.at, c.data, fin, 0, c.e)
			wantState(t, b, state{final: -1})
			wantPut(t, b, 2, "cd", false, 2, api.OK)
			wantPut(t, b, c.at, c.data, fin, 0, c.e)
			wantState(t, b, state{high: 4, held: 2, final: -1})
		}
	}
}

// P3.2: a final size that is told while none is known; 2 of 5 bytes are read, and there is room up to 8.
func TestFinalIsTold(t *testing.T) {
	for _, c := range []struct {
		at    int
		data  string
		fresh int
		e     api.Errno
		want  state
	}{
		{0, "", 0, api.ErrFinal, state{3, 2, 5, 3, -1}},
		{2, "", 0, api.ErrFinal, state{3, 2, 5, 3, -1}},
		{4, "", 0, api.ErrFinal, state{3, 2, 5, 3, -1}},
		{0, "a", 0, api.ErrFinal, state{3, 2, 5, 3, -1}},
		{1, "bcd", 0, api.ErrFinal, state{3, 2, 5, 3, -1}},
		{5, "", 0, api.OK, state{3, 2, 5, 3, 5}},
		{4, "e", 0, api.OK, state{3, 2, 5, 3, 5}},
		{0, "vwxyz", 0, api.OK, state{3, 2, 5, 3, 5}},
		{5, "f", 1, api.OK, state{4, 2, 6, 4, 6}},
		{6, "", 0, api.OK, state{3, 2, 6, 3, 6}},
		{7, "h", 1, api.OK, state{3, 2, 8, 4, 8}},
		{8, "", 0, api.OK, state{3, 2, 8, 3, 8}},
		{9, "", 0, api.ErrRoom, state{3, 2, 5, 3, -1}},
		{0, "abcdefghi", 0, api.ErrRoom, state{3, 2, 5, 3, -1}},
	} {
		b := made(t, 6)
		wantPut(t, b, 0, "abcde", false, 5, api.OK)
		wantRead(t, b, 2, "ab", false)
		wantPut(t, b, c.at, c.data, true, c.fresh, c.e)
		wantState(t, b, c.want)
	}
}

// P3.2: pieces once the final size is known to be 6; 2 of 4 bytes are read, and the byte at 5 is taken.
func TestPutOnceFinalIsKnown(t *testing.T) {
	known := state{2, 2, 6, 3, 6}
	full := state{4, 2, 6, 4, 6}
	for _, c := range []struct {
		at    int
		data  string
		fin   bool
		fresh int
		e     api.Errno
		want  state
	}{
		{6, "", true, 0, api.OK, known},
		{5, "F", true, 0, api.OK, known},
		{0, "ABCDEF", true, 1, api.OK, full},
		{4, "EF", true, 1, api.OK, full},
		{4, "E", false, 1, api.OK, full},
		{6, "", false, 0, api.OK, known},
		{0, "", false, 0, api.OK, known},
		{0, "ABCD", false, 0, api.OK, known},
		{0, "", true, 0, api.ErrFinal, known},
		{4, "", true, 0, api.ErrFinal, known},
		{5, "", true, 0, api.ErrFinal, known},
		{4, "E", true, 0, api.ErrFinal, known},
		{0, "ABCDE", true, 0, api.ErrFinal, known},
		{7, "", false, 0, api.ErrFinal, known},
		{7, "", true, 0, api.ErrFinal, known},
		{6, "G", false, 0, api.ErrFinal, known},
		{6, "G", true, 0, api.ErrFinal, known},
		{4, "EFG", false, 0, api.ErrFinal, known},
		{0, "ABCDEFG", true, 0, api.ErrFinal, known},
		{12, "", false, 0, api.ErrFinal, known},
		{12, "M", true, 0, api.ErrFinal, known},
		{api.MaxNum, "", false, 0, api.ErrFinal, known},
		{api.MaxNum - 1, "z", true, 0, api.ErrFinal, known},
		{api.MaxNum, "z", true, 0, api.ErrRange, known},
		{api.MaxNum + 1, "", false, 0, api.ErrRange, known},
		{-1, "", true, 0, api.ErrRange, known},
		{-1, "ABCDEFG", true, 0, api.ErrRange, known},
		{math.MinInt, "", false, 0, api.ErrRange, known},
		{math.MaxInt, "zz", true, 0, api.ErrRange, known},
	} {
		b := made(t, 8)
		wantPut(t, b, 0, "abcd", false, 4, api.OK)
		wantRead(t, b, 2, "ab", false)
		wantPut(t, b, 5, "f", true, 1, api.OK)
		wantState(t, b, known)
		wantPut(t, b, c.at, c.data, c.fin, c.fresh, c.e)
		wantState(t, b, c.want)
		wantPut(t, b, 4, "e", false, full.held-c.want.held, api.OK)
		rest := "cdef"
		if c.fresh == 1 {
			rest = "cdEf"
		}
		wantRead(t, b, 9, rest, true)
	}
}

// P3.2: the first error that applies is the one told, where several do.
func TestFirstErrorIsTold(t *testing.T) {
	// Against the high and the room at once there can be no piece; against the final size and the room there can.
	b := made(t, 4)
	wantPut(t, b, 0, "ab", true, 2, api.OK)
	wantPut(t, b, 5, "", false, 0, api.ErrFinal)
	wantPut(t, b, 0, "abcde", true, 0, api.ErrFinal)
	wantPut(t, b, api.MaxNum, "", true, 0, api.ErrFinal)
	wantPut(t, b, api.MaxNum, "a", true, 0, api.ErrRange)
	wantPut(t, b, -1, "", true, 0, api.ErrRange)
	wantState(t, b, state{ready: 2, high: 2, held: 2, final: 2})

	b = made(t, 4)
	wantPut(t, b, 0, "ab", false, 2, api.OK)
	wantPut(t, b, -1, "a", true, 0, api.ErrRange)
	wantPut(t, b, api.MaxNum, "a", false, 0, api.ErrRange)
	wantState(t, b, state{ready: 2, high: 2, held: 2, final: -1})
}

// P3.2, P3.4: an empty piece is a piece: its end counts for the high, and so against a final size below it.
func TestEmptyPieceRaisesTheHigh(t *testing.T) {
	b := made(t, 8)
	wantPut(t, b, 5, "", false, 0, api.OK)
	wantState(t, b, state{high: 5, final: -1})
	wantPut(t, b, 0, "abcd", true, 0, api.ErrFinal)
	wantPut(t, b, 0, "abcd", false, 4, api.OK)
	wantState(t, b, state{ready: 4, high: 5, held: 4, final: -1})
	wantRead(t, b, 8, "abcd", false)
	wantPut(t, b, 4, "e", true, 1, api.OK)
	wantRead(t, b, 8, "e", true)
}

// P3.2, P3.3: a stream without a byte ends at once.
func TestEmptyStream(t *testing.T) {
	b := made(t, 1)
	wantRead(t, b, 0, "", false)
	wantPut(t, b, 0, "", true, 0, api.OK)
	wantState(t, b, state{final: 0})
	for _, n := range []int{0, 1, -1, math.MinInt, math.MaxInt} {
		wantRead(t, b, n, "", true)
	}
	wantPut(t, b, 0, "", false, 0, api.OK)
	wantPut(t, b, 0, "", true, 0, api.OK)
	wantPut(t, b, 0, "a", false, 0, api.ErrFinal)
	wantPut(t, b, 1, "", false, 0, api.ErrFinal)
	wantState(t, b, state{final: 0})
}

// P3.3: how much is read of 5 bytes that are ready, with 2 more behind a gap.
func TestReadByHowMuchIsAsked(t *testing.T) {
	for _, c := range []struct {
		n    int
		want string
	}{
		{math.MinInt, ""}, {-5, ""}, {-1, ""}, {0, ""}, {1, "a"}, {4, "abcd"}, {5, "abcde"},
		{6, "abcde"}, {8, "abcde"}, {api.MaxRoom + 1, "abcde"}, {api.MaxNum, "abcde"}, {math.MaxInt, "abcde"},
	} {
		b := made(t, 8)
		wantPut(t, b, 6, "gh", true, 2, api.OK)
		wantPut(t, b, 0, "abcde", false, 5, api.OK)
		wantRead(t, b, c.n, c.want, false)
		had := len(c.want)
		wantState(t, b, state{5 - had, had, 8, 7 - had, 8})
		wantRead(t, b, 8, "abcde"[had:], false)
		wantRead(t, b, 8, "", false)
		wantState(t, b, state{0, 5, 8, 2, 8})
		wantPut(t, b, 5, "f", false, 1, api.OK)
		wantState(t, b, state{3, 5, 8, 3, 8})
		wantRead(t, b, 3, "fgh", true)
		wantState(t, b, state{0, 8, 8, 0, 8})
	}
}

// P3.3: end is told just where the offset has come to the final size, however that came about.
func TestEndIsToldAtTheFinalSize(t *testing.T) {
	b := made(t, 4)
	wantPut(t, b, 0, "abc", true, 3, api.OK)
	wantRead(t, b, 0, "", false)
	wantRead(t, b, -1, "", false)
	wantRead(t, b, 1, "a", false)
	wantRead(t, b, 1, "b", false)
	wantRead(t, b, 0, "", false)
	wantRead(t, b, 1, "c", true)
	wantRead(t, b, 0, "", true)
	wantRead(t, b, -1, "", true)
	wantRead(t, b, 1, "", true)

	b = made(t, 4)
	wantPut(t, b, 0, "abc", false, 3, api.OK)
	wantRead(t, b, 3, "abc", false)
	wantRead(t, b, 3, "", false)
	wantPut(t, b, 3, "", true, 0, api.OK)
	wantRead(t, b, 0, "", true)

	b = made(t, 4)
	wantPut(t, b, 4, "", true, 0, api.OK)
	wantPut(t, b, 0, "abc", false, 3, api.OK)
	wantRead(t, b, 4, "abc", false)
	wantPut(t, b, 2, "cd", false, 1, api.OK)
	wantRead(t, b, 4, "d", true)

	b = made(t, 4)
	wantPut(t, b, 0, "abc", false, 3, api.OK)
	wantRead(t, b, 2, "ab", false)
	wantPut(t, b, 2, "", true, 0, api.ErrFinal)
	wantPut(t, b, 0, "abc", true, 0, api.OK)
	wantRead(t, b, 2, "c", true)
}

// spare is what stands in the spare room of what is handed in.
const spare = "~~~~~~~~"

// padded: data in front of spare room, which is full of bytes too.
func padded(data string) []byte {
	whole := []byte(data + spare)
	return whole[:len(data):len(whole)]
}

// spoil changes every byte of the list and of its spare room.
func spoil(data []byte) {
	whole := data[:cap(data)]
	for i := range whole {
		whole[i] = '!'
	}
}

// P3.5: what is handed in is not changed and not kept, its spare room neither.
func TestPutKeepsAndChangesNothingOfItsArgument(t *testing.T) {
	b := made(t, 20)
	for _, c := range []struct {
		at    int
		data  string
		fresh int
		e     api.Errno
	}{
		{4, "efgh", 4, api.OK}, {0, "abcdef", 4, api.OK}, {3, "", 0, api.OK}, {8, "ijkl", 4, api.OK}, {18, "xyz", 0, api.ErrRoom},
	} {
		data := padded(c.data)
		if fresh, e := b.Put(c.at, data, false); fresh != c.fresh || e != c.e {
			t.Errorf("Put(%d, %q): %d, %d", c.at, c.data, fresh, e)
		}
		if string(data[:cap(data)]) != c.data+spare {
			t.Errorf("Put(%d, %q) made of its argument %q", c.at, c.data, data[:cap(data)])
		}
		spoil(data)
	}
	wantState(t, b, state{ready: 12, high: 12, held: 12, final: -1})
	first, _ := b.Read(5)
	if string(first) != "abcde" {
		t.Errorf("Read: %q", first)
	}

	data := padded("cdefghijklmn")
	if fresh, e := b.Put(2, data, true); fresh != 2 || e != api.OK {
		t.Errorf("Put: %d, %d", fresh, e)
	}
	spoil(data)
	wantRead(t, b, 20, "fghijklmn", true)
	if string(first) != "abcde" {
		t.Errorf("what was told changes with the buffer: %q", first)
	}
}

// P3.5: what is told is new memory, spare room too.
func TestReadTellsNewMemory(t *testing.T) {
	b := made(t, 10)
	wantPut(t, b, 0, "abcdefgh", false, 8, api.OK)
	none, _ := b.Read(0)
	spoil(none)
	first, _ := b.Read(3)
	spoil(first)
	second, _ := b.Read(2)
	spoil(first)
	if string(second) != "de" {
		t.Errorf("two answers share memory: %q", second)
	}
	wantPut(t, b, 8, "ijklm", false, 5, api.OK)
	if string(first) != "!!!" || string(second) != "de" {
		t.Errorf("what was told changes with the buffer: %q, %q", first, second)
	}
	spoil(first)
	spoil(second)
	third, _ := b.Read(10)
	if string(third) != "fghijklm" {
		t.Errorf("what was told is kept: %q", third)
	}
	spoil(third)
	wantPut(t, b, 13, "no", true, 2, api.OK)
	wantRead(t, b, 10, "no", true)
	if !bytes.Equal(third, bytes.Repeat([]byte("!"), 8)) {
		t.Errorf("what was told changes with the buffer: %q", third)
	}
}

// P3.1: buffers are on their own.
func TestBuffersAreOnTheirOwn(t *testing.T) {
	one, two := made(t, 4), made(t, 4)
	wantPut(t, one, 0, "ab", false, 2, api.OK)
	wantPut(t, two, 1, "yz", true, 2, api.OK)
	wantRead(t, one, 1, "a", false)
	wantState(t, one, state{1, 1, 2, 1, -1})
	wantState(t, two, state{0, 0, 3, 2, 3})
	wantPut(t, two, 0, "x", false, 1, api.OK)
	wantRead(t, two, 4, "xyz", true)
	wantRead(t, one, 4, "b", false)
}

// P1: no call panics, whatever numbers it is given and in whatever state the buffer is.
func TestNoCallPanics(t *testing.T) {
	numbers := []int{math.MinInt, math.MinInt + 1, -api.MaxNum, -1, 0, 1, 2, 3, 4, 5,
		api.MaxRoom - 1, api.MaxRoom, api.MaxRoom + 1, api.MaxNum - 1, api.MaxNum, api.MaxNum + 1, math.MaxInt - 1, math.MaxInt}
	for _, room := range numbers {
		b, e := reasm.New(room)
		if e != api.OK {
			continue
		}
		for _, at := range numbers {
			for _, data := range [][]byte{nil, {}, []byte("a"), []byte("abc")} {
				b.Put(at, data, false)
				b.Read(at)
				b.Put(at, data, at == 5)
			}
		}
		b.Put(0, nil, true)
		b.Read(-1)
	}
}

// model is a buffer as the chapter says it, byte by byte.
type model struct {
	room, offset, high, final int
	known                     bool
	bytes                     map[int]byte
}

// put: as Put.
func (m *model) put(at int, data []byte, fin bool) (fresh int, e api.Errno) {
	end := at + len(data)
	switch {
	case at < 0:
		return 0, api.ErrRange
	case m.known && end > m.final, m.known && fin && end != m.final, !m.known && fin && end < m.high:
		return 0, api.ErrFinal
	case end > m.offset+m.room:
		return 0, api.ErrRoom
	}
	m.high = max(m.high, end)
	if fin {
		m.final, m.known = end, true
	}
	for i, x := range data {
		if _, taken := m.bytes[at+i]; !taken && at+i >= m.offset {
			m.bytes[at+i] = x
			fresh++
		}
	}
	return fresh, api.OK
}

// read: as Read.
func (m *model) read(n int) (data string, end bool) {
	for len(data) < n {
		x, taken := m.bytes[m.offset]
		if !taken {
			break
		}
		data += string([]byte{x})
		delete(m.bytes, m.offset)
		m.offset++
	}
	return data, m.known && m.offset == m.final
}

// state: what the buffer should tell.
func (m *model) state() state {
	told := state{0, m.offset, m.high, len(m.bytes), -1}
	if m.known {
		told.final = m.final
	}
	for {
		if _, taken := m.bytes[m.offset+told.ready]; !taken {
			return told
		}
		told.ready++
	}
}

// P3.2, P3.3, P3.4: a plain model of a buffer beside the package's, over calls of all kinds.
func TestBufferIsAsItsModel(t *testing.T) {
	rng := rand.New(rand.NewSource(5))
	for range 4000 {
		m := &model{room: 1 + rng.Intn(30), bytes: map[int]byte{}}
		b := made(t, m.room)
		last := rng.Intn(90)
		for range 60 {
			if rng.Intn(3) == 0 {
				n := rng.Intn(12) - 1
				data, end := m.read(n)
				wantRead(t, b, n, data, end)
			} else {
				at, data, fin := piece(rng, m, last)
				fresh, e := m.put(at, data, fin)
				wantPut(t, b, at, string(data), fin, fresh, e)
			}
			wantState(t, b, m.state())
			if t.Failed() {
				return
			}
		}
	}
}

// piece: a piece near the offset; most of them lie as if the stream ended at last, a few do not.
func piece(rng *rand.Rand, m *model, last int) (at int, data []byte, fin bool) {
	at = m.offset + rng.Intn(m.room+8) - 5
	data = make([]byte, rng.Intn(1+rng.Intn(m.room+2)))
	if rng.Intn(8) > 0 {
		at = min(max(0, at), last)
		data = data[:min(len(data), last-at)]
	}
	for i := range data {
		data[i] = byte(rng.Intn(256))
	}
	if rng.Intn(40) == 0 {
		return at, data, rng.Intn(2) == 0
	}
	return at, data, at+len(data) == last && rng.Intn(2) == 0
}

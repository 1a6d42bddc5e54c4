package hframe_test

import (
	"slices"
	"strings"
	"testing"
	"time"

	"turnpike/api"
)

// P17.3, P17.4: the chapter's examples.
func TestExampleOfARequestStream(t *testing.T) {
	r := made(t, request, 100)
	feed(t, r, unhex(t, "01 02 61 62 00 03 78"))
	wantEvent(t, r, headers("ab"))
	wantEvent(t, r, data("x"))
	wantNone(t, r, api.OK)
	feed(t, r, unhex(t, "79 7a"))
	wantEvent(t, r, data("yz"))
	wantNone(t, r, api.OK)
	end(t, r)
	wantNone(t, r, api.OK)
	wantDone(t, r, true)

	r = made(t, request, 100)
	feed(t, r, unhex(t, "00 01 78"))
	wantNone(t, r, api.ErrUnexpected)
}

// P17.3
func TestRequestStreams(t *testing.T) {
	wantRequest(t, "01 00", api.OK, headers(""))
	wantRequest(t, "01 01 61 00 02 7879 00 01 7a", api.OK, headers("a"), data("xy"), data("z"))
	wantRequest(t, "01 01 61 01 01 62", api.OK, headers("a"), headers("b"))
	wantRequest(t, "01 01 61 00 01 78 01 01 62", api.OK, headers("a"), data("x"), headers("b"))
	wantRequest(t, "21 02 0100 01 01 61 21 00 00 01 78 0a 01 00 01 00 0e 03 040000", api.OK, headers("a"), data("x"), headers(""))
	// What stands in a payload is no frame.
	wantRequest(t, "01 02 0200 00 04 02000400 21 02 0300 01 02 0100", api.OK, headers("\x02\x00"), data("\x02\x00\x04\x00"), headers("\x01\x00"))
}

// P17.3: a second headers frame, and what comes behind it.
func TestBehindTrailers(t *testing.T) {
	for _, between := range []string{"", "00 01 78", "00 00", "21 01 00"} {
		ahead := "01 01 61" + between + "01 01 62"
		events := list(headers("a"), headers("b"))
		if between == "00 01 78" {
			events = list(headers("a"), data("x"), headers("b"))
		}
		wantRequest(t, ahead, api.OK, events...)
		wantRequest(t, ahead+"21 02 0000 40ff 00", api.OK, events...)
		for _, behind := range []string{"01 01 63", "01 00", "00 01 78", "00 00", "04 00", "07 01 00", "0d 01 00", "01 40ff"} {
			wantRequest(t, ahead+behind, api.ErrUnexpected, events...)
			wantRequest(t, ahead+"21 00"+behind, api.ErrUnexpected, events...)
		}
		wantRequest(t, ahead+"01", api.ErrShort, events...)
		wantRequest(t, ahead+"00", api.ErrShort, events...)
	}
}

// P17.3: a headers frame of just limit bytes, and of one more, which is refused as soon as the length is there.
func TestHeadersAtTheLimit(t *testing.T) {
	for _, limit := range []int{0, 1, 2, 62, 63, 64, 100, 16383, 16384, 1<<20 - 1, 1 << 20} {
		text := strings.Repeat("h", limit)
		first := framed(1, []byte(text))
		life{request, limit, first, true, list(headers(text)), api.OK}.want(t)
		both := slices.Concat(first, unhex(t, "00 01 78"), first)
		life{request, limit, both, true, list(headers(text), data("x"), headers(text)), api.OK}.want(t)
		for _, length := range []int{limit + 1, limit + 2, 1<<20 + 1, 1 << 30, api.MaxNum} {
			for _, form := range [][]byte{short(length), long(length, 8)} {
				b := slices.Concat([]byte{1}, form)
				life{request, limit, b, false, nil, api.ErrLarge}.want(t)
				life{request, limit, b, true, nil, api.ErrLarge}.want(t)
				life{request, limit, b[:len(b)-1], false, nil, api.OK}.want(t)
				life{request, limit, slices.Concat(first, b), false, list(headers(text)), api.ErrLarge}.want(t)
			}
		}
	}
}

// P17.3: a headers frame is told as a whole, and not earlier.
func TestHeadersAreWaitedFor(t *testing.T) {
	r := made(t, request, 100)
	for _, b := range unhex(t, "4001 8000 0003 6162") {
		feed(t, r, []byte{b})
		wantNone(t, r, api.OK)
	}
	feed(t, r, []byte("c\x00"))
	wantEvent(t, r, headers("abc"))
	wantNone(t, r, api.OK)
	feed(t, r, unhex(t, "01 78 01 02 79"))
	wantEvent(t, r, data("x"))
	wantNone(t, r, api.OK)
	feed(t, r, []byte("z"))
	wantEvent(t, r, headers("yz"))
	wantNone(t, r, api.OK)
	wantDone(t, r, false)
}

// P17.3: data is told as it comes, each time as much as is there.
func TestDataAsItComes(t *testing.T) {
	r := made(t, request, 100)
	feed(t, r, unhex(t, "01 00 00"))
	wantEvent(t, r, headers(""))
	wantNone(t, r, api.OK)
	feed(t, r, unhex(t, "0a"))
	wantNone(t, r, api.OK)
	feed(t, r, []byte("a"))
	wantEvent(t, r, data("a"))
	wantNone(t, r, api.OK)
	feed(t, r, []byte("bc"))
	feed(t, r, nil)
	feed(t, r, []byte("d"))
	wantEvent(t, r, data("bcd"))
	wantNone(t, r, api.OK)
	feed(t, r, []byte("efghij\x00\x02k"))
	wantEvent(t, r, data("efghij"))
	wantEvent(t, r, data("k"))
	wantNone(t, r, api.OK)
	feed(t, r, []byte("l\x00\x01m\x00\x00\x00\x02n"))
	wantEvent(t, r, data("l"))
	wantEvent(t, r, data("m"))
	wantEvent(t, r, data("n"))
	wantNone(t, r, api.OK)
	end(t, r)
	wantNone(t, r, api.ErrShort)
}

// P17.3: what Next is not asked for in between comes as one piece.
func TestDataThatIsAskedForLate(t *testing.T) {
	r := made(t, request, 100)
	for _, b := range []byte("\x01\x01h\x00\x05abcde\x00\x01f\x01\x01t") {
		feed(t, r, []byte{b})
	}
	end(t, r)
	wantEvent(t, r, headers("h"))
	wantEvent(t, r, data("abcde"))
	wantEvent(t, r, data("f"))
	wantDone(t, r, false)
	wantEvent(t, r, headers("t"))
	wantDone(t, r, false)
	wantNone(t, r, api.OK)
	wantDone(t, r, true)
}

// P17.3: empty data frames are passed over.
func TestEmptyData(t *testing.T) {
	wantRequest(t, "01 01 61 00 00", api.OK, headers("a"))
	wantRequest(t, "01 01 61 00 00 00 4000 00 01 78 00 c000000000000000 4000 00", api.OK, headers("a"), data("x"))
	wantRequest(t, "01 01 61 00 00 01 01 62", api.OK, headers("a"), headers("b"))
	wantRequest(t, "00 00", api.ErrUnexpected)
	wantRequest(t, "01 00 01 00 00 00", api.ErrUnexpected, headers(""), headers(""))
}

// P17.3: a data frame may be as long as a number can be; no limit is asked of it.
func TestGreatData(t *testing.T) {
	for _, length := range []int{1 << 21, 1 << 30, api.MaxNum} {
		r := made(t, request, 0)
		feed(t, r, slices.Concat(unhex(t, "01 00 00"), short(length)))
		wantEvent(t, r, headers(""))
		wantNone(t, r, api.OK)
		for range 3 {
			piece := strings.Repeat("d", 100000)
			feed(t, r, []byte(piece))
			wantEvent(t, r, data(piece))
			wantNone(t, r, api.OK)
		}
		end(t, r)
		wantNone(t, r, api.ErrShort)
		wantDone(t, r, false)
	}
}

// P17.3: what is unknown is passed over, however long it is, and none of it is read.
func TestUnknownFrames(t *testing.T) {
	for _, kind := range []int{10, 11, 12, 14, 33, 64, 255, 1 << 14, 1 << 30, api.MaxNum} {
		for _, length := range []int{0, 1, 2, 63, 64, 1025, 16384, 70000} {
			b := framed(kind, slices.Repeat([]byte{2}, length))
			life{request, 3, slices.Concat(b, unhex(t, "01 01 61"), b, unhex(t, "00 01 78"), b), true, list(headers("a"), data("x")), api.OK}.want(t)
			life{control, 3, slices.Concat(unhex(t, "04 00"), b, unhex(t, "07 01 02"), b), false, list(settled(0, 0, -1), goaway(2)), api.OK}.want(t)
			life{control, 3, slices.Concat(b, unhex(t, "04 00")), true, nil, api.ErrSettings}.want(t)
		}
		r := made(t, request, 3)
		feed(t, r, nums(kind, api.MaxNum))
		for range 5 {
			feed(t, r, unhex(t, "02 00 01 00 04 00"))
			wantNone(t, r, api.OK)
		}
		end(t, r)
		wantNone(t, r, api.ErrShort)
	}
}

// P17.3: a request stream that is over at each place: amid a frame, and between two.
func TestRequestStreamOverAtEachPlace(t *testing.T) {
	whole := unhex(t, "21 02 0102 4001 02 6162 00 4003 78797a 8000000b 00 01 01 63 0a 01 00")
	events := list(headers("ab"), data("xyz"), headers("c"))
	told := map[int]int{9: 1, 15: 2, 23: 3} // so many events are whole there
	between := []int{0, 4, 9, 15, 20, 23, 26}
	wantData := map[int]string{13: "x", 14: "xy"}
	count := 0
	for at := range len(whole) + 1 {
		count = max(count, told[at])
		want := slices.Clone(events[:count])
		if s, ok := wantData[at]; ok {
			want = append(want, data(s))
		}
		e := api.ErrShort
		if slices.Contains(between, at) {
			e = api.OK
		}
		if e == api.OK && count == 0 {
			e = api.ErrMissing
		}
		life{request, 2, whole[:at], true, want, e}.want(t)
		life{request, 2, whole[:at], false, want, api.OK}.want(t)
	}
}

// P17.3: a request stream that is over without headers.
func TestMissingHeaders(t *testing.T) {
	wantRequest(t, "", api.ErrMissing)
	wantRequest(t, "21 00", api.ErrMissing)
	wantRequest(t, "21 03 010100 0a 00", api.ErrMissing)
	wantRequest(t, "21 03 0101", api.ErrShort)
	wantRequest(t, "01", api.ErrShort)
	wantRequest(t, "01 40", api.ErrShort)
	wantRequest(t, "01 01", api.ErrShort)
}

// P17.3: of two things that are wrong that is told which comes first, or is named first.
func TestWhichErrorOfARequestStream(t *testing.T) {
	wantRequest(t, "07 44ff", api.ErrUnexpected) // ahead of ErrLarge
	wantRequest(t, "04 4401", api.ErrUnexpected)
	wantRequest(t, "01 00 01 00 01 4065", api.ErrUnexpected, headers(""), headers(""))
	wantRequest(t, "01 4065 61", api.ErrLarge) // ahead of ErrShort
	wantRequest(t, "02 05 61", api.ErrUnexpected)
	wantRequest(t, "00 01", api.ErrUnexpected)                                // ahead of ErrShort and ErrMissing
	wantRequest(t, "01 01 61 02 00 01 4065", api.ErrUnexpected, headers("a")) // the first of two frames
	wantRequest(t, "01 4065 02 00", api.ErrLarge)
	wantRequest(t, "01 01 61 00 02 78", api.ErrShort, headers("a"), data("x")) // data ahead of the error
	wantRequest(t, "01 01 61 00 01 78 03 00", api.ErrUnexpected, headers("a"), data("x"))
}

// P17.4
func TestDone(t *testing.T) {
	r := made(t, request, 100)
	wantDone(t, r, false)
	wantNone(t, r, api.OK)
	wantDone(t, r, false)
	feed(t, r, unhex(t, "01 01 61"))
	wantEvent(t, r, headers("a"))
	wantNone(t, r, api.OK)
	wantDone(t, r, false) // more may come
	end(t, r)
	wantDone(t, r, false) // Next has not told it
	wantNone(t, r, api.OK)
	wantDone(t, r, true)
	r.Feed(nil)
	r.End()
	wantNone(t, r, api.OK)
	wantDone(t, r, true)
	// With events that have still to be told.
	r = made(t, request, 100)
	feed(t, r, unhex(t, "01 01 61 00 00 21 00"))
	end(t, r)
	wantDone(t, r, false)
	wantEvent(t, r, headers("a"))
	wantDone(t, r, false)
	wantNone(t, r, api.OK)
	wantDone(t, r, true)
}

// P17.4: behind an error nothing is done, nor is a control stream ever.
func TestNotDone(t *testing.T) {
	for _, digits := range []string{"", "21 00", "02 00", "01", "01 01", "01 01 61 00", "01 01 61 00 01", "01 01 61 02 00", "01 4065", "00 00", "01 00 01 00 01 00"} {
		r := made(t, request, 100)
		feed(t, r, unhex(t, digits))
		end(t, r)
		for range 3 {
			drain(t, r)
			wantDone(t, r, false)
		}
	}
	for _, digits := range []string{"", "04", "04 00", "04 00 07 01 05", "07 01 05", "04 00 04 00"} {
		r := made(t, control, 100)
		feed(t, r, unhex(t, digits))
		wantDone(t, r, false)
		drain(t, r)
		wantDone(t, r, false)
		end(t, r)
		for range 3 {
			drain(t, r)
			wantDone(t, r, false)
		}
	}
}

// P17.3: long frames that come byte by byte are read in time that grows with their length alone.
func TestLongFramesByteByByte(t *testing.T) {
	started := time.Now()
	text := make([]byte, 1<<20)
	for _, b := range [][]byte{framed(1, text), slices.Concat(unhex(t, "01 00"), framed(0, text)), slices.Concat(framed(33, text), unhex(t, "01 00"))} {
		r := made(t, request, 1<<20)
		read := 0
		for i := range b {
			feed(t, r, b[i:i+1])
			for {
				ev, ok, e := r.Next()
				if e != api.OK {
					t.Fatalf("Next: %d", e)
				}
				if !ok {
					break
				}
				read += len(ev.Data)
			}
		}
		end(t, r)
		wantNone(t, r, api.OK)
		wantDone(t, r, true)
		if read != len(text) && b[0] != 33 {
			t.Errorf("%d bytes were told", read)
		}
	}
	if took := time.Since(started); took > time.Minute {
		t.Errorf("three frames of %d bytes took %s", len(text), took)
	}
}

package hframe_test

import (
	"slices"
	"testing"

	"turnpike/api"
	"turnpike/hframe"
)

// P17.3: the chapter's example.
func TestExampleOfAControlStream(t *testing.T) {
	r := made(t, control, 100)
	feed(t, r, unhex(t, "04 02 01 05"))
	wantEvent(t, r, settled(5, 0, -1))
	wantNone(t, r, api.OK)
	end(t, r)
	wantNone(t, r, api.ErrCritical)
	wantDone(t, r, false)
}

// wantSettings asks what a settings frame with that payload tells, first in a control stream that goes on, and in one that is over.
func wantSettings(t *testing.T, payload []byte, want hframe.Settings, e api.Errno) {
	t.Helper()
	events, over := list(hframe.Event{Kind: hframe.Settled, Settings: want}), api.ErrCritical
	if e != api.OK {
		events, over = nil, e
	}
	b := framed(4, payload)
	life{control, 100, b, false, events, e}.want(t)
	life{control, 100, b, true, events, over}.want(t)
	if e == api.OK {
		life{control, 100, slices.Concat(b, unhex(t, "07 01 05")), false, append(events, goaway(5)), e}.want(t)
	}
}

// settings: some.
func settings(capacity, blocked, limit int) hframe.Settings {
	return hframe.Settings{Capacity: capacity, Blocked: blocked, Limit: limit}
}

// P17.3: each id.
func TestSettingsOfEachID(t *testing.T) {
	wantSettings(t, nil, settings(0, 0, -1), api.OK)
	for _, value := range []int{0, 1, 5, 63, 64, 100, 16383, 16384, 1<<30 - 1, 1 << 30, api.MaxNum} {
		wantSettings(t, nums(1, value), settings(value, 0, -1), api.OK)
		wantSettings(t, nums(7, value), settings(0, value, -1), api.OK)
		wantSettings(t, nums(6, value), settings(0, 0, value), api.OK)
		for _, id := range []int{2, 3, 4, 5} {
			wantSettings(t, nums(id, value), settings(0, 0, 0), api.ErrSettings)
		}
		for _, id := range []int{0, 8, 9, 10, 33, 63, 64, 65, 257, 258, 262, 1 << 14, 1 << 30, 1<<32 + 1, 1<<32 + 2, api.MaxNum} {
			wantSettings(t, nums(id, value), settings(0, 0, -1), api.OK)
		}
	}
}

// P17.3: several ids, in any order, unknown ones among them.
func TestSettingsOfSeveralIDs(t *testing.T) {
	wantSettings(t, nums(1, 5, 7, 6, 6, 7), settings(5, 6, 7), api.OK)
	wantSettings(t, nums(6, 7, 7, 6, 1, 5), settings(5, 6, 7), api.OK)
	wantSettings(t, nums(0, 9, 6, 7, 33, 9, 1, 5, 64, 9), settings(5, 0, 7), api.OK)
	wantSettings(t, nums(7, 0, 6, 0, 1, 0), settings(0, 0, 0), api.OK)
	wantSettings(t, nums(1, 2, 7, 3, 6, 4), settings(2, 3, 4), api.OK) // values are no ids
	wantSettings(t, nums(1, 7, 7, 7, 6, 7), settings(7, 7, 7), api.OK)
	for _, id := range []int{2, 3, 4, 5} {
		for at := range 4 {
			wantSettings(t, slices.Insert(nums(1, 5, 7, 6, 6, 7), 2*at, nums(id, 9)...), settings(0, 0, 0), api.ErrSettings)
		}
	}
}

// P17.3: numbers in longer forms.
func TestSettingsInLongForms(t *testing.T) {
	for size := 1; size <= 8; size *= 2 {
		for wide := 1; wide <= 8; wide *= 2 {
			pair := func(id, value int) []byte { return slices.Concat(long(id, size), long(value, wide)) }
			wantSettings(t, slices.Concat(pair(1, 5), pair(7, 6), pair(6, 0)), settings(5, 6, 0), api.OK)
			wantSettings(t, pair(40, 5), settings(0, 0, -1), api.OK)
			for _, id := range []int{2, 3, 4, 5} {
				wantSettings(t, pair(id, 0), settings(0, 0, 0), api.ErrSettings)
			}
			for _, id := range []int{0, 1, 6, 7, 8, 33} {
				wantSettings(t, slices.Concat(nums(id, 3), pair(id, 3)), settings(0, 0, 0), api.ErrSettings)
			}
		}
	}
}

// P17.3: no id may be there twice, an unknown one neither, whatever the values are.
func TestSettingsWithAnIDTwice(t *testing.T) {
	for _, id := range []int{0, 1, 6, 7, 8, 33, 63, 64, 16384, 1 << 30, api.MaxNum} {
		for _, value := range []int{0, 5, 64} {
			wantSettings(t, nums(id, value, id, value), settings(0, 0, 0), api.ErrSettings)
			wantSettings(t, nums(id, value, 40, 1, id, value+1), settings(0, 0, 0), api.ErrSettings)
			wantSettings(t, nums(id, 0, id, 0, id, 0), settings(0, 0, 0), api.ErrSettings)
		}
	}
	// The same in two streams is nothing.
	wantSettings(t, nums(1, 5), settings(5, 0, -1), api.OK)
	wantSettings(t, nums(1, 5), settings(5, 0, -1), api.OK)
}

// P17.3: a number that is not whole, and one that is not there; it is told ahead of a wrong id, wherever it stands.
func TestSettingsThatAreNotWhole(t *testing.T) {
	for _, ahead := range [][]byte{nil, nums(1, 5), nums(7, 6, 6, 7), nums(33, 300), nums(2, 9), nums(1, 5, 1, 5), nums(4, 1<<30)} {
		for _, tail := range [][]byte{nums(1), nums(6), nums(7), nums(2), nums(33), nums(64), nums(0), {0x40}, {0x80, 0, 0}, {0xc0}, long(1, 8)[:7], {0xff},
			{1, 0x40}, {1, 0x80, 0, 0}, {1, 0xff}, {6, 0xc0, 0, 0, 0, 0, 0, 0}, {2, 0x40}, {5, 0xbf}, {0x40, 0x21, 0x40}} {
			wantSettings(t, slices.Concat(ahead, tail), settings(0, 0, 0), api.ErrLength)
		}
	}
	// What is behind the frame does not make its number whole.
	wantControl(t, "04 01 01 05", api.ErrLength)
	wantControl(t, "04 02 01 40 05", api.ErrLength)
	wantControl(t, "04 03 01 05 07 01 05", api.ErrLength)
}

// P17.3: payloads of 1024 bytes, and of one more, which are refused as soon as the length is there.
func TestControlFramesAtTheBound(t *testing.T) {
	var pairs []byte // 1017 bytes
	for id := range 339 {
		pairs = append(pairs, slices.Concat(long(100+id, 2), long(9, 1))...)
	}
	full := slices.Concat(nums(1, 5), pairs, long(6, 1), long(7, 4))
	if len(full) != 1024 {
		t.Fatalf("a payload of %d bytes", len(full))
	}
	wantSettings(t, full, settings(5, 0, 7), api.OK)
	wantSettings(t, full[:1019], settings(5, 0, -1), api.OK)
	wantSettings(t, slices.Concat(full[:1019], long(1, 1), long(7, 4)), settings(0, 0, 0), api.ErrSettings)
	wantSettings(t, slices.Concat(full[:1019], long(6, 1), long(7, 8)[:4]), settings(0, 0, 0), api.ErrLength)

	for _, length := range []int{1025, 1026, 16383, 16384, 1 << 20, api.MaxNum} {
		for _, form := range [][]byte{short(length), long(length, 8)} {
			for _, c := range []struct {
				kind   byte
				ahead  []byte
				events []hframe.Event
			}{{4, nil, nil}, {7, []byte{4, 0}, list(settled(0, 0, -1))}, {13, []byte{4, 0}, list(settled(0, 0, -1))}} {
				b := slices.Concat(c.ahead, []byte{c.kind}, form)
				life{control, 1 << 20, b, false, c.events, api.ErrLarge}.want(t)
				life{control, 1 << 20, b, true, c.events, api.ErrLarge}.want(t)
				life{control, 1 << 20, b[:len(b)-1], false, c.events, api.OK}.want(t)
				life{control, 1 << 20, b[:len(b)-1], true, c.events, api.ErrShort}.want(t)
			}
		}
	}
	for _, kind := range []int{7, 13} {
		for _, length := range []int{1023, 1024} {
			b := slices.Concat([]byte{4, 0}, framed(kind, make([]byte, length)))
			life{control, 0, b, false, list(settled(0, 0, -1)), api.ErrLength}.want(t)
			life{control, 0, b[:len(b)-1], false, list(settled(0, 0, -1)), api.OK}.want(t)
			life{control, 0, b[:len(b)-1], true, list(settled(0, 0, -1)), api.ErrShort}.want(t)
		}
	}
}

// P17.3: goaways and max pushes with a number, in each form.
func TestGoawaysAndMaxPushes(t *testing.T) {
	for _, id := range []int{0, 1, 4, 63, 64, 16383, 16384, 1<<30 - 1, 1 << 30, api.MaxNum} {
		for size := len(short(id)); size <= 8; size *= 2 {
			for _, c := range []struct {
				kind   int
				events []hframe.Event
			}{{7, list(goaway(id))}, {13, nil}} {
				b := slices.Concat([]byte{4, 0}, framed(c.kind, long(id, size)))
				events := slices.Concat(list(settled(0, 0, -1)), c.events)
				life{control, 0, b, false, events, api.OK}.want(t)
				life{control, 0, b, true, events, api.ErrCritical}.want(t)
				life{control, 0, slices.Concat(b, framed(c.kind, long(id, size))), false, append(events, c.events...), api.OK}.want(t)
			}
		}
	}
	wantControl(t, "04 00 07 01 08 0d 01 02 07 01 0c 0d 01 01 07 01 04", api.OK, settled(0, 0, -1), goaway(8), goaway(12), goaway(4))
}

// P17.3: with no number, with one that is not whole, and with more than one.
func TestNotJustOneNumber(t *testing.T) {
	for _, kind := range []int{7, 13} {
		for _, payload := range [][]byte{nil, {0x40}, {0x7f}, {0x80, 0, 0}, {0xc0, 0, 0, 0, 0, 0, 0}, {0xff}, {0, 0}, {5, 0x40}, {1, 2, 3}, {0x40, 5, 5}, {0x80, 0, 0, 5, 5}, append(long(5, 8), 0), make([]byte, 100)} {
			b := slices.Concat([]byte{4, 0}, framed(kind, payload))
			for _, behind := range [][]byte{nil, {7, 1, 5}, {0}} {
				for _, over := range []bool{false, true} {
					life{control, 0, slices.Concat(b, behind), over, list(settled(0, 0, -1)), api.ErrLength}.want(t)
				}
			}
		}
	}
}

// P17.3: they are waited for, and none is told before it is whole.
func TestControlFramesAreWaitedFor(t *testing.T) {
	r := made(t, control, 0)
	for _, b := range unhex(t, "04 07 01 4005 07 03 21") {
		feed(t, r, []byte{b})
		wantNone(t, r, api.OK)
	}
	feed(t, r, unhex(t, "09 07 04 800000"))
	wantEvent(t, r, settled(5, 3, -1))
	wantNone(t, r, api.OK)
	feed(t, r, unhex(t, "09 0d"))
	wantEvent(t, r, goaway(9))
	wantNone(t, r, api.OK)
	feed(t, r, unhex(t, "01"))
	wantNone(t, r, api.OK)
	feed(t, r, unhex(t, "05 07 01 0a"))
	wantEvent(t, r, goaway(10))
	wantNone(t, r, api.OK)
}

// P17.3: a control stream that is over at each place.
func TestControlStreamOverAtEachPlace(t *testing.T) {
	whole := unhex(t, "4004 05 01 4005 07 03 21 02 0102 0d 02 4009 07 04 80000005 c000000000000007 4001 3f")
	told := map[int]int{8: 1, 22: 2, 33: 3} // so many events are whole there
	between := []int{0, 8, 12, 16, 22, 33}
	events := list(settled(5, 3, -1), goaway(5), goaway(63))
	count := 0
	for at := range len(whole) + 1 {
		count = max(count, told[at])
		e := api.ErrShort
		if slices.Contains(between, at) {
			e = api.ErrCritical
		}
		life{control, 0, whole[:at], true, events[:count], e}.want(t)
		life{control, 0, whole[:at], false, events[:count], api.OK}.want(t)
	}
}

// P17.3: of two things that are wrong that is told which comes first, or is named first.
func TestWhichErrorOfAControlStream(t *testing.T) {
	first := settled(0, 0, -1)
	wantControl(t, "07 44ff", api.ErrSettings) // ahead of ErrLarge
	wantControl(t, "01 4065", api.ErrSettings)
	wantControl(t, "02 00", api.ErrSettings) // ahead of ErrUnexpected
	wantControl(t, "00 00", api.ErrSettings)
	wantControl(t, "21 00 04 00", api.ErrSettings)
	wantControl(t, "04 00 04 4401", api.ErrUnexpected, first) // ahead of ErrLarge
	wantControl(t, "04 00 01 4401", api.ErrUnexpected, first)
	wantControl(t, "04 00 04 02 0200", api.ErrUnexpected, first) // ahead of ErrSettings
	wantControl(t, "04 00 04 01 01", api.ErrUnexpected, first)   // ahead of ErrLength
	wantControl(t, "04 03 02 00 01", api.ErrLength)              // ahead of ErrSettings
	wantControl(t, "04 05 01 00 01 00 07", api.ErrLength)
	wantControl(t, "04 04 02 00 03 00 04 00", api.ErrSettings) // the first of two frames
	wantControl(t, "04 00 07 00 04 00", api.ErrLength, first)
	wantControl(t, "04 00 07 02 0101 07 4401", api.ErrLength, first)
	for digits, e := range map[string]api.Errno{
		"":               api.ErrCritical,
		"04":             api.ErrShort,
		"07":             api.ErrShort, // a length is still to come, ahead of which nothing is refused
		"21":             api.ErrShort,
		"07 05":          api.ErrSettings, // ahead of ErrShort
		"07 05 01":       api.ErrSettings,
		"07 01 05":       api.ErrSettings, // ahead of ErrCritical
		"04 4401":        api.ErrLarge,    // ahead of ErrShort
		"04 44":          api.ErrShort,
		"04 04 02 00":    api.ErrShort, // what is not whole is not looked at
		"04 04 02 00 01": api.ErrShort,
		"04 01 01":       api.ErrLength, // ahead of ErrCritical
		"04 02 02 00":    api.ErrSettings,
	} {
		life{control, 100, unhex(t, digits), true, nil, e}.want(t)
	}
	for digits, e := range map[string]api.Errno{
		"":             api.ErrCritical,
		"21 00":        api.ErrCritical,
		"21 05 00":     api.ErrShort, // ahead of ErrCritical
		"21":           api.ErrShort,
		"07":           api.ErrShort,
		"07 01":        api.ErrShort,
		"07 09 05":     api.ErrShort, // ahead of ErrLength: it is waited for
		"07 02 05":     api.ErrShort,
		"07 00":        api.ErrLength,
		"02":           api.ErrShort,
		"02 01":        api.ErrUnexpected, // ahead of ErrShort
		"0d 4401 0000": api.ErrLarge,      // ahead of ErrShort
	} {
		life{control, 100, unhex(t, "04 00"+digits), true, list(first), e}.want(t)
	}
}

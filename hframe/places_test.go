package hframe_test

import (
	"slices"
	"testing"

	"turnpike/api"
	"turnpike/hframe"
)

// place is where a frame may come, which known types may come there, and what is told of others.
type place struct {
	kind    int
	ahead   string
	events  []hframe.Event
	may     []int
	refused api.Errno
	unknown bool
}

// places: all of both kinds of streams, also behind frames that are passed over.
func places() []place {
	h, d := headers("ab"), data("x")
	s := settled(0, 0, -1)
	return []place{
		{request, "", nil, []int{1}, api.ErrUnexpected, true},
		{request, "21 01 01", nil, []int{1}, api.ErrUnexpected, true},
		{request, "01 02 6162", list(h), []int{0, 1}, api.ErrUnexpected, true},
		{request, "0b 02 0101 01 02 6162 21 00", list(h), []int{0, 1}, api.ErrUnexpected, true},
		{request, "01 02 6162 00 01 78", list(h, d), []int{0, 1}, api.ErrUnexpected, true},
		{request, "01 02 6162 00 00", list(h), []int{0, 1}, api.ErrUnexpected, true},
		{request, "01 02 6162 00 01 78 21 01 07 00 01 78", list(h, d, d), []int{0, 1}, api.ErrUnexpected, true},
		{request, "01 02 6162 01 02 6162", list(h, h), nil, api.ErrUnexpected, true},
		{request, "01 02 6162 00 01 78 01 02 6162", list(h, d, h), nil, api.ErrUnexpected, true},
		{request, "01 00 01 00 21 02 0000", list(headers(""), headers("")), nil, api.ErrUnexpected, true},
		{control, "", nil, []int{4}, api.ErrSettings, false},
		{control, "04 00", list(s), []int{7, 13}, api.ErrUnexpected, true},
		{control, "04 02 21 04", list(s), []int{7, 13}, api.ErrUnexpected, true},
		{control, "04 00 07 01 08", list(s, goaway(8)), []int{7, 13}, api.ErrUnexpected, true},
		{control, "04 00 0d 01 08", list(s), []int{7, 13}, api.ErrUnexpected, true},
		{control, "04 00 21 01 04", list(s), []int{7, 13}, api.ErrUnexpected, true},
		{control, "04 00 07 01 08 21 00 0d 01 08 07 01 04", list(s, goaway(8), goaway(4)), []int{7, 13}, api.ErrUnexpected, true},
	}
}

// payloads: one that is right for the type.
func payload(kind int) []byte {
	switch kind {
	case 4:
		return []byte{1, 5}
	case 7, 13:
		return []byte{5}
	}
	return []byte("abc")
}

// told: the events of a frame of that type with its payload.
func told(kind int) []hframe.Event {
	switch kind {
	case 0:
		return list(data("abc"))
	case 1:
		return list(headers("abc"))
	case 4:
		return list(settled(5, 0, -1))
	case 7:
		return list(goaway(5))
	}
	return nil
}

// types: all small ones, and others at the bounds of the forms.
func types() []int {
	var all []int
	for kind := range 70 {
		all = append(all, kind)
	}
	return append(all, 255, 256, 257, 260, 263, 16383, 16384, 16385, 1<<30-1, 1<<30, 1<<32, 1<<32+1, 1<<32+4, api.MaxNum-1, api.MaxNum)
}

// refusedAt: what is told of a type at a place, OK if it may be there.
func refusedAt(p place, kind int) api.Errno {
	named := slices.Contains(known, kind) || slices.Contains(barred, kind)
	if slices.Contains(p.may, kind) || !named && p.unknown {
		return api.OK
	}
	return p.refused
}

// P17.3: each type at each place.
func TestEachTypeAtEachPlace(t *testing.T) {
	for _, p := range places() {
		ahead := unhex(t, p.ahead)
		for _, kind := range types() {
			b := slices.Concat(ahead, framed(kind, payload(kind)))
			l := life{p.kind, 100, b, false, p.events, refusedAt(p, kind)}
			if l.e == api.OK {
				l.events = slices.Concat(p.events, told(kind))
			}
			l.want(t)
		}
	}
}

// P17.3: a type or a length in a long form is the same one.
func TestLongFormsAtEachPlace(t *testing.T) {
	for _, p := range places() {
		for _, kind := range slices.Concat(known, barred, []int{10, 33}) {
			for size := 1; size <= 8; size *= 2 {
				text := payload(kind)
				for _, head := range [][]byte{slices.Concat(long(kind, size), short(len(text))), slices.Concat(short(kind), long(len(text), size))} {
					b := slices.Concat(unhex(t, p.ahead), head, text)
					l := life{p.kind, 100, b, false, p.events, refusedAt(p, kind)}
					if l.e == api.OK {
						l.events = slices.Concat(p.events, told(kind))
					}
					l.want(t)
				}
			}
		}
	}
}

// P17.3: a type is refused as soon as the length is there, and no earlier: the stream may end there.
func TestRefusedWithTheLength(t *testing.T) {
	for _, p := range places() {
		for _, kind := range types() {
			want := refusedAt(p, kind)
			if want == api.OK {
				continue
			}
			for _, length := range [][]byte{{0}, {5}, long(5, 8), short(1000), short(api.MaxNum)} {
				r := made(t, p.kind, 100)
				feed(t, r, slices.Concat(unhex(t, p.ahead), short(kind)))
				drain(t, r)
				for _, b := range length[:len(length)-1] {
					wantNone(t, r, api.OK)
					feed(t, r, []byte{b})
				}
				wantNone(t, r, api.OK)
				feed(t, r, length[len(length)-1:])
				wantNone(t, r, want)
				// The same stream over ahead of the length's last byte, and behind it.
				b := slices.Concat(unhex(t, p.ahead), short(kind), length)
				life{p.kind, 100, b[:len(b)-1], true, p.events, api.ErrShort}.want(t)
				life{p.kind, 100, b, true, p.events, want}.want(t)
			}
		}
	}
}

// P17.3: behind what is refused nothing is read, whatever it is.
func TestNothingBehindARefusal(t *testing.T) {
	for _, p := range places() {
		for _, kind := range barred {
			b := slices.Concat(unhex(t, p.ahead), framed(kind, []byte{1, 2}))
			for _, more := range [][]byte{unhex(t, "04 00"), unhex(t, "01 01 61"), unhex(t, "00 01 61"), unhex(t, "07 01 05"), unhex(t, "21")} {
				life{p.kind, 100, slices.Concat(b, more), true, p.events, refusedAt(p, kind)}.want(t)
			}
		}
	}
}

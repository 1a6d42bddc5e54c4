package frame_test

import (
	"bytes"
	"math/rand"
	"slices"
	"strings"
	"testing"

	"turnpike/api"
	"turnpike/frame"
)

// P5.3: nothing at all, and as much as may be and one more.
func TestDecodeSizes(t *testing.T) {
	wantFault(t, nil, 0, api.ErrShort)
	wantFault(t, []byte{}, 0, api.ErrShort)
	pings := bytes.Repeat([]byte{1}, api.MaxData)
	if frames, at, e := frame.Decode(pings); len(frames) != api.MaxData || at != 0 || e != api.OK {
		t.Errorf("MaxData pings: %d, %d, %d", len(frames), at, e)
	}
	wantFault(t, bytes.Repeat([]byte{1}, api.MaxData+1), 0, api.ErrHuge)
	wantFault(t, make([]byte, api.MaxData+1), 0, api.ErrHuge)
	wantFault(t, bytes.Repeat([]byte{0x1f}, api.MaxData+1), 0, api.ErrHuge)
	wantFault(t, make([]byte, 5*api.MaxData), 0, api.ErrHuge)
	pings[api.MaxData-1] = 0x1f
	wantFault(t, pings, api.MaxData-1, api.ErrKind)
	to := append([]byte{8, 3}, make([]byte, api.MaxData-2)...)
	wantFrames(t, to, frame.Frame{Kind: 8, ID: 3, Data: make([]byte, api.MaxData-2)})
}

// P5.3: frames one behind the other, of all Kinds, each pair of them.
func TestDecodeOneBehindTheOther(t *testing.T) {
	var all []byte
	var frames []frame.Frame
	for _, a := range samples() {
		for _, b := range samples() {
			if a.f.Kind == 0 && b.f.Kind == 0 {
				continue // one padding
			}
			wantFrames(t, unhex(t, a.b+b.b), a.f, b.f)
		}
		if a.f.Kind != 0 {
			all = append(all, unhex(t, a.b)...)
			frames = append(frames, a.f)
		}
	}
	wantFrames(t, all, frames...)
}

// P5.3: zero bytes in a row are one frame, wherever they stand.
func TestDecodePadding(t *testing.T) {
	ping := frame.Frame{Kind: 1}
	wantFrames(t, unhex(t, "000001"), frame.Frame{N: 2}, ping)
	wantFrames(t, unhex(t, "00010001000000"), frame.Frame{N: 1}, ping, frame.Frame{N: 1}, ping, frame.Frame{N: 3})
	wantFrames(t, unhex(t, "13 00 00 00"), frame.Frame{Kind: 19}, frame.Frame{N: 2})
	wantFault(t, unhex(t, "000000 1f"), 3, api.ErrKind)
	wantFault(t, unhex(t, "00 4000"), 1, api.ErrForm)
	wantFault(t, unhex(t, "00 0000 40"), 3, api.ErrShort)
}

// P5.3: a type that is cut, in a long form, or above 30, in this order, at its place.
func TestDecodeTypes(t *testing.T) {
	for _, ahead := range []string{"", "01", "0000", "0a040161 1e", "0401024103"} {
		at := len(unhex(t, ahead))
		for _, c := range []struct {
			b string
			e api.Errno
		}{
			{"40", api.ErrShort}, {"7f", api.ErrShort}, {"80", api.ErrShort}, {"800000", api.ErrShort}, {"c0", api.ErrShort}, {"c0000000000000", api.ErrShort}, {"ff", api.ErrShort},
			{"4001", api.ErrForm}, {"4000", api.ErrForm}, {"401e", api.ErrForm}, {"80000001", api.ErrForm}, {"c000000000000001", api.ErrForm}, {"400a040161", api.ErrForm},
			{"401f", api.ErrForm}, {"403f", api.ErrForm}, {"80000040", api.ErrForm}, {"80003fff", api.ErrForm}, {"c00000003fffffff", api.ErrForm},
			{"1f", api.ErrKind}, {"20", api.ErrKind}, {"3f", api.ErrKind}, {"4040", api.ErrKind}, {"7fff", api.ErrKind}, {"80004000", api.ErrKind}, {"c000000040000000", api.ErrKind}, {"ffffffffffffffff", api.ErrKind},
		} {
			wantFault(t, unhex(t, ahead+c.b), at, c.e)
			if c.e != api.ErrShort {
				wantFault(t, unhex(t, ahead+c.b+"01"), at, c.e)
			}
		}
	}
}

// P5.3: items that are cut at every byte, behind other frames.
func TestDecodeCut(t *testing.T) {
	for _, s := range samples() {
		if s.f.Kind == 0 {
			continue
		}
		whole := unhex(t, s.b)
		for n := 1; n < len(whole); n++ {
			wantFault(t, whole[:n], 0, api.ErrShort)
			wantFault(t, append([]byte{1, 0, 0}, whole[:n]...), 3, api.ErrShort)
		}
	}
	for _, b := range []string{"08", "09", "0a04", "0b04", "0c04", "0d04", "0e0401", "0f0401", "0f04010261", "0a044001", "08c0000000000000", "060003aabb", "06 00 ffffffffffffffff 61"} {
		wantFault(t, unhex(t, b), 0, api.ErrShort)
	}
}

// P5.3: stream frames of all eight types.
func TestDecodeStreams(t *testing.T) {
	for kind := 8; kind < 16; kind++ {
		f := frame.Frame{Kind: 8, ID: 70, Fin: kind&1 != 0}
		b := []byte{byte(kind), 0x40, 70}
		if kind&4 != 0 {
			b = append(b, 9)
			f.At = 9
		}
		if kind&2 == 0 {
			wantFrames(t, b, f)
			f.Data = []byte{1, 2, 0}
			wantFrames(t, append(b, 1, 2, 0), f)
			continue
		}
		wantFault(t, b, 0, api.ErrShort)
		wantFrames(t, append(b, 0), f)
		wantFrames(t, append(b, 0, 1), f, frame.Frame{Kind: 1})
		f.Data = []byte{1, 2, 0}
		wantFrames(t, append(b, 3, 1, 2, 0), f)
		wantFrames(t, append(b, 3, 1, 2, 0, 0), f, frame.Frame{N: 1})
		wantFault(t, append(b, 4, 1, 2, 0), 0, api.ErrShort)
	}
	wantFrames(t, unhex(t, "09 04 6869"), frame.Frame{Kind: 8, ID: 4, Data: []byte("hi"), Fin: true})
	wantFrames(t, unhex(t, "0e 04 00 01 61"), frame.Frame{Kind: 8, ID: 4, Data: []byte("a")})
}

// inForm: a number in a form of so many bytes.
func inForm(n, size int) []byte {
	b := make([]byte, size)
	for i := size - 1; i >= 0; i-- {
		b[i] = byte(n)
		n >>= 8
	}
	b[0] |= map[int]byte{1: 0, 2: 0x40, 4: 0x80, 8: 0xc0}[size]
	return b
}

// P5.3: items that are numbers may stand in long forms, but not the type, nor the byte ahead of a Cid.
func TestDecodeLongForms(t *testing.T) {
	for _, size := range []int{1, 2, 4, 8} {
		n := func(v int) string { return string(inForm(v, size)) }
		for _, c := range []struct {
			b string
			f frame.Frame
		}{
			{"\x02" + n(9) + n(3) + n(1) + n(4) + n(0) + n(0), frame.Frame{Kind: 2, Spans: spans(3, 3, 5, 9), Delay: 3}},
			{"\x03" + n(9) + n(0) + n(0) + n(4) + n(1) + n(2) + n(3), frame.Frame{Kind: 3, Spans: spans(5, 9), Ecn: [3]int{1, 2, 3}}},
			{"\x04" + n(1) + n(2) + n(3), frame.Frame{Kind: 4, ID: 1, Code: 2, N: 3}},
			{"\x05" + n(1) + n(2), frame.Frame{Kind: 5, ID: 1, Code: 2}},
			{"\x06" + n(1) + n(2) + "ab", frame.Frame{Kind: 6, At: 1, Data: []byte("ab")}},
			{"\x07" + n(2) + "ab", frame.Frame{Kind: 7, Data: []byte("ab")}},
			{"\x0f" + n(1) + n(2) + n(3) + "abc", frame.Frame{Kind: 8, ID: 1, At: 2, Data: []byte("abc"), Fin: true}},
			{"\x0c" + n(1) + n(2) + "abc", frame.Frame{Kind: 8, ID: 1, At: 2, Data: []byte("abc")}},
			{"\x10" + n(1), frame.Frame{Kind: 16, N: 1}},
			{"\x11" + n(1) + n(2), frame.Frame{Kind: 17, ID: 1, N: 2}},
			{"\x12" + n(1), frame.Frame{Kind: 18, N: 1}},
			{"\x13" + n(1), frame.Frame{Kind: 19, N: 1}},
			{"\x14" + n(1), frame.Frame{Kind: 20, N: 1}},
			{"\x15" + n(1) + n(2), frame.Frame{Kind: 21, ID: 1, N: 2}},
			{"\x16" + n(1), frame.Frame{Kind: 22, N: 1}},
			{"\x17" + n(1), frame.Frame{Kind: 23, N: 1}},
			{"\x18" + n(2) + n(1) + "\x01c0123456789abcdef", frame.Frame{Kind: 24, N: 2, At: 1, Cid: []byte("c"), Data: []byte("0123456789abcdef")}},
			{"\x19" + n(1), frame.Frame{Kind: 25, N: 1}},
			{"\x1c" + n(1) + n(2) + n(3) + "abc", frame.Frame{Kind: 28, Code: 1, N: 2, Data: []byte("abc")}},
			{"\x1d" + n(1) + n(3) + "abc", frame.Frame{Kind: 29, Code: 1, Data: []byte("abc")}},
		} {
			wantFrames(t, []byte(c.b), c.f)
			for cutAt := 1; cutAt < len(c.b); cutAt++ {
				if c.f.Kind == 8 && c.b[0]&2 == 0 && cutAt > len(c.b)-4 {
					continue // what is left is Data
				}
				wantFault(t, []byte(c.b[:cutAt]), 0, api.ErrShort)
			}
		}
	}
	wantFault(t, []byte("\x18\x02\x01\x40\x01c0123456789abcdef"), 0, api.ErrShort) // 64 bytes of Cid
}

// P5.3: an ack whose spans can't be, whole and with items missing behind.
func TestDecodeWrongAcks(t *testing.T) {
	many := func(others string, told int) string {
		return "4100 00 " + others + "00" + strings.Repeat("0000", told)
	}
	for _, kind := range []string{"02", "03"} {
		for _, c := range []struct {
			b string
			e api.Errno
		}{
			{"03 00 00 04", api.ErrField},               // from -1
			{"00 00 00 01", api.ErrField},               //
			{"03 00 00 ffffffffffffffff", api.ErrField}, //
			{"ffffffffffffffff 00 01 00 ffffffffffffffff 00", api.ErrField},
			{"09 00 01 04 04 00", api.ErrField},       // to -1
			{"09 00 01 04 03 01", api.ErrField},       // to 0, from -1
			{"09 00 01 09 00 00", api.ErrField},       // nothing is left below
			{"09 00 01 08 00 00", api.ErrField},       //
			{"09 00 02 00 00 00 06 00", api.ErrField}, // the third of them
			{"03 00 01 04", api.ErrField},             // items are missing behind
			{"03 00 3f 04", api.ErrField},             //
			{"09 00 01 04 04", api.ErrField},          //
			{"09 00 05 04 04 00", api.ErrField},       //
			{"09 00 05 04 03 01", api.ErrField},       //
			{many("4040", 64), api.ErrField},          // 65 spans
			{many("4040", 0), api.ErrField},           //
			{many("4040", 20), api.ErrField},          //
			{"4100 00 4040", api.ErrField},            //
			{"00 00 ffffffffffffffff", api.ErrField},  //
			{"ffffffffffffffff 00 ffffffffffffffff", api.ErrField},
			{"4100 00 403f", api.ErrShort}, // 64 spans may be
			{many("403f", 62), api.ErrShort},
			{"09 00 01", api.ErrShort},
			{"09 00 01 04 03", api.ErrShort},
			{"09 00 40", api.ErrShort},
			{"09 00", api.ErrShort},
			{"09", api.ErrShort},
			{"", api.ErrShort},
		} {
			wantFault(t, unhex(t, kind+c.b), 0, c.e)
			wantFault(t, unhex(t, "01 0000"+kind+c.b), 3, c.e)
			if c.e == api.ErrField && kind == "03" {
				wantFault(t, unhex(t, kind+c.b+"010203"), 0, c.e)
			}
		}
	}
	most := unhex(t, "02"+many("403f", 63))
	list := apart(api.MaxSpans)
	for i := range list {
		list[i].From += 256 - 126
		list[i].To += 256 - 126
	}
	wantFrames(t, most, frame.Frame{Kind: 2, Spans: list})
}

// P5.3: the first frame that can't be read is told, and what is missing ahead of what is wrong.
func TestDecodeFirstFault(t *testing.T) {
	wantFault(t, unhex(t, "01 0700 1f"), 1, api.ErrField)
	wantFault(t, unhex(t, "01 1f 0700"), 1, api.ErrKind)
	wantFault(t, unhex(t, "01 4001 1f"), 1, api.ErrForm)
	wantFault(t, unhex(t, "01 01 0404"), 2, api.ErrShort)
	wantFault(t, unhex(t, "18 01 02 00 30313233343536373839616263646566"), 0, api.ErrField)
	wantFault(t, unhex(t, "18 01 02 00 303132333435363738396162636465"), 0, api.ErrShort)
	wantFault(t, unhex(t, "06 ffffffffffffffff 02 61"), 0, api.ErrShort)
}

// P5.5: what is handed in stays as it is; frames share memory neither with it nor with one another.
func TestMemoryOfDecode(t *testing.T) {
	var text string
	var frames []frame.Frame
	for _, s := range samples() {
		if s.f.Kind != 0 {
			text += s.b
			frames = append(frames, s.f)
		}
	}
	b := padded(unhex(t, text))
	before := slices.Clone(b[:cap(b)])
	first, _, _ := frame.Decode(b)
	second, _, _ := frame.Decode(b)
	if !bytes.Equal(b[:cap(b)], before) {
		t.Errorf("Decode changed what was handed in")
	}
	for i := range first {
		if i%2 == 0 {
			spoilFrame(&first[i])
		}
	}
	for i := range first {
		if i%2 == 1 && !same(first[i], frames[i]) {
			t.Errorf("the frame %d shares memory with another", i)
		}
	}
	if !bytes.Equal(b[:cap(b)], before) {
		t.Errorf("a frame shares memory with what was handed in")
	}
	spoil(b)
	if !slices.EqualFunc(second, frames, same) {
		t.Errorf("two answers share memory, or one with what was handed in")
	}
	for i := range second {
		data, cid := slices.Clone(second[i].Data), slices.Clone(second[i].Cid)
		spoil(second[i].Data)
		if !bytes.Equal(second[i].Cid, cid) {
			t.Errorf("the lists of the frame %d share memory", i)
		}
		spoil(second[i].Data)
		spoil(second[i].Cid)
		if !bytes.Equal(second[i].Data, data) {
			t.Errorf("the lists of the frame %d share memory", i)
		}
	}
}

// spoilFrame changes all that the lists of a frame hold.
func spoilFrame(f *frame.Frame) {
	spoil(f.Data)
	spoil(f.Cid)
	for i := range f.Spans {
		f.Spans[i] = api.Span{From: -1, To: -1}
	}
}

// model reads by the chapter's table as it stands there, one word an item.
type model struct {
	b     []byte
	at    int
	short bool
}

func (m *model) number() int {
	if m.short || m.at >= len(m.b) || m.at+1<<(m.b[m.at]>>6) > len(m.b) {
		m.short = true
		return 0
	}
	size := 1 << (m.b[m.at] >> 6)
	n := 0
	for i := range size {
		n = n<<8 | int(m.b[m.at+i])
	}
	m.at += size
	return n & (1<<(8*size-2) - 1)
}

func (m *model) some(n int) []byte {
	if m.short || n > len(m.b)-m.at {
		m.short = true
		return nil
	}
	m.at += n
	return m.b[m.at-n : m.at]
}

// modelItems: the items of the types; of the types of streams by their bits.
func modelItems(kind int) string {
	if kind >= 8 && kind < 16 {
		items := "ID"
		if kind&4 != 0 {
			items += " At"
		}
		if kind&2 != 0 {
			return items + " Len"
		}
		return items + " Rest"
	}
	return map[int]string{
		2: "Ack", 3: "Ack Ecn", 4: "ID Code N", 5: "ID Code", 6: "At Len", 7: "Len", 16: "N", 17: "ID N", 18: "N", 19: "N",
		20: "N", 21: "ID N", 22: "N", 23: "N", 24: "N At Cid D16", 25: "N", 26: "D8", 27: "D8", 28: "Code N Len", 29: "Code Len",
	}[kind]
}

func (m *model) ack(f *frame.Frame) (can bool) {
	to := m.number()
	f.Delay = m.number()
	others := m.number()
	if m.short {
		return true
	}
	if others > 63 {
		return false
	}
	for i := range others + 1 {
		if i > 0 {
			to = f.Spans[0].From - m.number() - 2
			if to < 0 && !m.short {
				return false
			}
		}
		from := to - m.number()
		if m.short {
			return true
		}
		if from < 0 {
			return false
		}
		f.Spans = append([]api.Span{{From: from, To: to}}, f.Spans...)
	}
	return true
}

func (m *model) frame() (frame.Frame, api.Errno) {
	begin := m.at
	kind := m.number()
	size := m.at - begin
	switch {
	case m.short:
		return frame.Frame{}, api.ErrShort
	case size == 2 && kind < 1<<6 || size == 4 && kind < 1<<14 || size == 8 && kind < 1<<30:
		return frame.Frame{}, api.ErrForm
	case kind > 30:
		return frame.Frame{}, api.ErrKind
	}
	f := frame.Frame{Kind: kind}
	if kind == 0 {
		f.N = 1
		for ; m.at < len(m.b) && m.b[m.at] == 0; m.at++ {
			f.N++
		}
	}
	if kind >= 8 && kind < 16 {
		f.Kind, f.Fin = 8, kind%2 == 1
	}
	for _, item := range strings.Fields(modelItems(kind)) {
		switch item {
		case "ID":
			f.ID = m.number()
		case "At":
			f.At = m.number()
		case "N":
			f.N = m.number()
		case "Code":
			f.Code = m.number()
		case "Len":
			f.Data = m.some(m.number())
		case "Rest":
			f.Data = m.some(len(m.b) - m.at)
		case "Cid":
			if n := m.some(1); n != nil {
				f.Cid = m.some(int(n[0]))
			}
		case "D8":
			f.Data = m.some(8)
		case "D16":
			f.Data = m.some(16)
		case "Ack":
			if !m.ack(&f) {
				return f, api.ErrField
			}
		case "Ecn":
			f.Ecn[0] = m.number()
			f.Ecn[1] = m.number()
			f.Ecn[2] = m.number()
		}
	}
	if m.short {
		return f, api.ErrShort
	}
	if f.Kind == 7 && len(f.Data) == 0 || (f.Kind == 6 || f.Kind == 8) && f.At+len(f.Data) > num ||
		slices.Contains([]int{18, 19, 22, 23}, f.Kind) && f.N > 1<<60 || f.Kind == 24 && (f.At > f.N || len(f.Cid) < 1 || len(f.Cid) > 20) {
		return f, api.ErrField
	}
	return f, api.OK
}

func modelDecode(b []byte) (frames []frame.Frame, at int, e api.Errno) {
	m := &model{b: b}
	for m.at < len(b) {
		at = m.at
		f, e := m.frame()
		if e != api.OK {
			return nil, at, e
		}
		frames = append(frames, f)
	}
	return frames, 0, api.OK
}

// randomPayload: bytes of frames that are nearly right.
func randomPayload(r *rand.Rand) []byte {
	var b []byte
	for range 1 + r.Intn(3) {
		b = append(b, byte(r.Intn(32)))
		for range r.Intn(10) {
			switch r.Intn(8) {
			case 0:
				b = append(b, byte(r.Intn(256)))
			case 1:
				b = append(b, inForm(r.Intn(64), 1<<r.Intn(4))...)
			case 2:
				b = append(b, inForm(num-r.Intn(3), 8)...)
			case 3:
				b = append(b, inForm(1<<60+r.Intn(3)-1, 8)...)
			case 4:
				b = append(b, make([]byte, r.Intn(20))...)
			default:
				b = append(b, byte(r.Intn(6)))
			}
		}
	}
	return b
}

// P1, P5.2, P5.3: Decode against the table read word by word; what is read goes to bytes and back.
func TestDecodeAgainstModel(t *testing.T) {
	r := rand.New(rand.NewSource(5))
	seen := map[api.Errno]int{}
	kind := map[int]int{}
	for range 300000 {
		b := randomPayload(r)
		frames, at, e := modelDecode(b)
		seen[e]++
		if e != api.OK {
			wantFault(t, b, at, e)
			continue
		}
		wantFrames(t, b, frames...)
		for _, f := range frames {
			kind[f.Kind]++
			wantCheck(t, f, api.OK)
			short, _ := frame.Encode(f)
			wantFrames(t, short, f)
		}
		if t.Failed() {
			return
		}
	}
	for _, e := range []api.Errno{api.OK, api.ErrShort, api.ErrForm, api.ErrKind, api.ErrField} {
		if seen[e] < 50 {
			t.Errorf("the payloads brought %d only %d times", e, seen[e])
		}
	}
	for _, k := range kinds() {
		if kind[k] < 20 {
			t.Errorf("the payloads brought Kind %d only %d times", k, kind[k])
		}
	}
}

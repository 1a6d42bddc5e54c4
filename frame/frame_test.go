package frame_test

import (
	"bytes"
	"encoding/hex"
	"math"
	"slices"
	"strings"
	"testing"

	"turnpike/api"
	"turnpike/frame"
)

const num = api.MaxNum

// sample is a right frame and its bytes.
type sample struct {
	f frame.Frame
	b string
}

// samples: at least one right frame of every Kind.
func samples() []sample {
	return []sample{
		{frame.Frame{Kind: 0, N: 1}, "00"},
		{frame.Frame{Kind: 0, N: 5}, "0000000000"},
		{frame.Frame{Kind: 1}, "01"},
		{frame.Frame{Kind: 2, Spans: spans(3, 3, 5, 9)}, "02 09 00 01 04 00 00"},
		{frame.Frame{Kind: 2, Spans: spans(0, 0), Delay: 64}, "02 00 4040 00 00"},
		{frame.Frame{Kind: 2, Spans: spans(1, 2, 9, 9, 100, 300), Delay: 7}, "02 412c 07 02 40c8 4059 00 05 01"},
		{frame.Frame{Kind: 3, Spans: spans(4, 7), Delay: 1, Ecn: [3]int{2, 64, 5}}, "03 07 01 00 03 02 4040 05"},
		{frame.Frame{Kind: 3, Spans: spans(0, 1, 3, 4), Ecn: [3]int{0, 1, 0}}, "03 04 00 01 01 00 01 00 01 00"},
		{frame.Frame{Kind: 4, ID: 4, Code: 256, N: 9}, "04 04 4100 09"},
		{frame.Frame{Kind: 5, ID: 63, Code: 64}, "05 3f 4040"},
		{frame.Frame{Kind: 6, At: 16384, Data: []byte("xyz")}, "06 80004000 03 78797a"},
		{frame.Frame{Kind: 6}, "06 00 00"},
		{frame.Frame{Kind: 7, Data: []byte("t")}, "07 01 74"},
		{frame.Frame{Kind: 8, ID: 4, Data: []byte("hi"), Fin: true}, "0b 04 02 6869"},
		{frame.Frame{Kind: 8, ID: 4, Data: []byte("hi")}, "0a 04 02 6869"},
		{frame.Frame{Kind: 8, ID: 5, At: 1, Data: []byte("hi")}, "0e 05 01 02 6869"},
		{frame.Frame{Kind: 8, ID: 6, At: 64, Fin: true}, "0f 06 4040 00"},
		{frame.Frame{Kind: 8}, "0a 00 00"},
		{frame.Frame{Kind: 16, N: 1 << 30}, "10 c000000040000000"},
		{frame.Frame{Kind: 17, ID: 8, N: 9}, "11 08 09"},
		{frame.Frame{Kind: 18, N: 100}, "12 4064"},
		{frame.Frame{Kind: 19, N: 3}, "13 03"},
		{frame.Frame{Kind: 20, N: 2}, "14 02"},
		{frame.Frame{Kind: 21, ID: 1, N: 2}, "15 01 02"},
		{frame.Frame{Kind: 22, N: 1}, "16 01"},
		{frame.Frame{Kind: 23, N: 0}, "17 00"},
		{frame.Frame{Kind: 24, N: 5, At: 2, Cid: []byte("cid"), Data: []byte("0123456789abcdef")}, "18 05 02 03 636964 30313233343536373839616263646566"},
		{frame.Frame{Kind: 25, N: 7}, "19 07"},
		{frame.Frame{Kind: 26, Data: []byte("path-one")}, "1a 706174682d6f6e65"},
		{frame.Frame{Kind: 27, Data: []byte("path-two")}, "1b 706174682d74776f"},
		{frame.Frame{Kind: 28, Code: 10, N: 6, Data: []byte("why")}, "1c 0a 06 03 776879"},
		{frame.Frame{Kind: 29, Code: 256, Data: []byte("why")}, "1d 4100 03 776879"},
		{frame.Frame{Kind: 29}, "1d 00 00"},
		{frame.Frame{Kind: 30}, "1e"},
	}
}

// right: one right frame of a Kind.
func right(t *testing.T, kind int) frame.Frame {
	t.Helper()
	for _, s := range samples() {
		if s.f.Kind == kind {
			return s.f
		}
	}
	t.Fatalf("no frame of Kind %d", kind)
	return frame.Frame{}
}

// kinds: all Kinds there are.
func kinds() []int {
	return []int{0, 1, 2, 3, 4, 5, 6, 7, 8, 16, 17, 18, 19, 20, 21, 22, 23, 24, 25, 26, 27, 28, 29, 30}
}

// spans: spans from their ends, two by two.
func spans(ends ...int) []api.Span {
	var list []api.Span
	for i := 0; i < len(ends); i += 2 {
		list = append(list, api.Span{From: ends[i], To: ends[i+1]})
	}
	return list
}

// apart: n spans of one number each, with one number missing between two.
func apart(n int) []api.Span {
	var list []api.Span
	for i := range n {
		list = append(list, api.Span{From: 2 * i, To: 2 * i})
	}
	return list
}

// unhex: bytes from digits, spaces among them.
func unhex(t *testing.T, digits string) []byte {
	t.Helper()
	b, err := hex.DecodeString(strings.ReplaceAll(digits, " ", ""))
	if err != nil {
		t.Fatal(err)
	}
	return b
}

// same: are two frames the same, nil and empty lists being one?
func same(a, b frame.Frame) bool {
	return a.Kind == b.Kind && a.ID == b.ID && a.At == b.At && a.N == b.N && a.Code == b.Code && a.Fin == b.Fin &&
		bytes.Equal(a.Data, b.Data) && bytes.Equal(a.Cid, b.Cid) && slices.Equal(a.Spans, b.Spans) &&
		a.Delay == b.Delay && a.Ecn == b.Ecn
}

// wantCheck asks Check for one answer, and Encode for the same one.
func wantCheck(t *testing.T, f frame.Frame, e api.Errno) {
	t.Helper()
	if got := frame.Check(f); got != e {
		t.Errorf("Check(%.200v): %d; want %d", f, got, e)
	}
	b, got := frame.Encode(f)
	if got != e {
		t.Errorf("Encode(%.200v): %d; want %d", f, got, e)
	}
	if e != api.OK && len(b) != 0 {
		t.Errorf("Encode(%.200v): bytes beside an error", f)
	}
	if e == api.OK && len(b) == 0 {
		t.Errorf("Encode(%.200v): no bytes", f)
	}
}

// wantBytes asks Encode for bytes.
func wantBytes(t *testing.T, f frame.Frame, b []byte) {
	t.Helper()
	if got, e := frame.Encode(f); !bytes.Equal(got, b) || e != api.OK {
		t.Errorf("Encode(%.200v): %.100x, %d; want %.100x", f, got, e, b)
	}
}

// wantFrames asks Decode for frames.
func wantFrames(t *testing.T, b []byte, frames ...frame.Frame) {
	t.Helper()
	got, at, e := frame.Decode(b)
	if !slices.EqualFunc(got, frames, same) || at != 0 || e != api.OK {
		t.Errorf("Decode(%.100x): %.300v, %d, %d; want %.300v", b, got, at, e, frames)
	}
}

// wantFault asks Decode for an error at a place, and for no frames.
func wantFault(t *testing.T, b []byte, at int, e api.Errno) {
	t.Helper()
	got, gotAt, gotE := frame.Decode(b)
	if len(got) != 0 || gotAt != at || gotE != e {
		t.Errorf("Decode(%.100x): %.300v, %d, %d; want none, %d, %d", b, got, gotAt, gotE, at, e)
	}
}

// P5.1, P5.2, P5.3: every Kind is right, has its bytes, and is read from them; fields that have no item are zero.
func TestEveryKind(t *testing.T) {
	seen := map[int]int{}
	for _, s := range samples() {
		b := unhex(t, s.b)
		seen[s.f.Kind]++
		wantCheck(t, s.f, api.OK)
		wantBytes(t, s.f, b)
		wantFrames(t, b, s.f)
	}
	for _, kind := range kinds() {
		if seen[kind] == 0 {
			t.Errorf("no sample of Kind %d", kind)
		}
	}
}

// P5.1, P5.2, P5.4: what is no Kind is told ahead of anything else, and elicits nothing.
func TestKind(t *testing.T) {
	wrong := []int{math.MinInt, -256, -1, 9, 10, 11, 12, 13, 14, 15, 31, 32, 64, 256, math.MaxInt}
	for _, kind := range wrong {
		f := frame.Frame{Kind: kind, N: 1, Data: []byte("01234567"), Spans: spans(1, 1)}
		wantCheck(t, f, api.ErrKind)
		f.Data = make([]byte, api.MaxData+1)
		f.N, f.ID = -1, -1
		wantCheck(t, f, api.ErrKind)
		if frame.Elicits(f) {
			t.Errorf("Elicits: Kind %d", kind)
		}
	}
	for _, kind := range kinds() {
		wantCheck(t, right(t, kind), api.OK)
	}
}

// P5.4: it hangs on the Kind alone.
func TestElicits(t *testing.T) {
	quiet := []int{0, 2, 3, 28, 29}
	for _, kind := range kinds() {
		want := !slices.Contains(quiet, kind)
		if got := frame.Elicits(right(t, kind)); got != want {
			t.Errorf("Elicits: Kind %d: %v", kind, got)
		}
		wrong := frame.Frame{Kind: kind, ID: -1, N: -1, At: -1, Code: -1, Data: make([]byte, api.MaxData+1)}
		if got := frame.Elicits(wrong); got != want {
			t.Errorf("Elicits: Kind %d with wrong fields: %v", kind, got)
		}
	}
}

// number names a field that holds a number.
type number struct {
	name string
	set  func(*frame.Frame, int)
}

// numbers: all fields that hold numbers.
func numbers() []number {
	return []number{
		{"ID", func(f *frame.Frame, n int) { f.ID = n }},
		{"At", func(f *frame.Frame, n int) { f.At = n }},
		{"N", func(f *frame.Frame, n int) { f.N = n }},
		{"Code", func(f *frame.Frame, n int) { f.Code = n }},
		{"Delay", func(f *frame.Frame, n int) { f.Delay = n }},
		{"Ecn0", func(f *frame.Frame, n int) { f.Ecn[0] = n }},
		{"Ecn1", func(f *frame.Frame, n int) { f.Ecn[1] = n }},
		{"Ecn2", func(f *frame.Frame, n int) { f.Ecn[2] = n }},
	}
}

// named: the fields that are numbers of a Kind's items, by the chapter's table.
func named(kind int) []string {
	switch kind {
	case 0, 16, 18, 19, 20, 22, 23, 25:
		return []string{"N"}
	case 2:
		return []string{"Delay"}
	case 3:
		return []string{"Delay", "Ecn0", "Ecn1", "Ecn2"}
	case 4:
		return []string{"ID", "Code", "N"}
	case 5:
		return []string{"ID", "Code"}
	case 6:
		return []string{"At"}
	case 8:
		return []string{"ID", "At"}
	case 17, 21:
		return []string{"ID", "N"}
	case 24:
		return []string{"N", "At"}
	case 28:
		return []string{"Code", "N"}
	case 29:
		return []string{"Code"}
	}
	return nil
}

// P5.1, P5.2: a number of the items is from 0 to MaxNum; one that the items don't name is not looked at.
func TestNumbers(t *testing.T) {
	for _, kind := range kinds() {
		for _, field := range numbers() {
			for _, n := range []int{math.MinInt, -num, -1, num + 1, num + 2, math.MaxInt} {
				f := right(t, kind)
				field.set(&f, n)
				if slices.Contains(named(kind), field.name) {
					wantCheck(t, f, api.ErrField)
					continue
				}
				b, _ := frame.Encode(right(t, kind))
				wantCheck(t, f, api.OK)
				wantBytes(t, f, b)
			}
		}
	}
}

// P5.1, P5.2, P5.3: numbers at 0 and at MaxNum, and at the ends of each form.
func TestNumbersAtTheEdges(t *testing.T) {
	forms := []struct {
		n int
		b string
	}{
		{0, "00"}, {1, "01"}, {63, "3f"}, {64, "4040"}, {16383, "7fff"}, {16384, "80004000"},
		{1<<30 - 1, "bfffffff"}, {1 << 30, "c000000040000000"}, {num - 1, "fffffffffffffffe"}, {num, "ffffffffffffffff"},
	}
	for _, c := range forms {
		for _, s := range []sample{
			{frame.Frame{Kind: 2, Delay: c.n, Spans: spans(7, 7)}, "02 07 @ 00 00"},
			{frame.Frame{Kind: 2, Spans: spans(c.n, c.n)}, "02 @ 00 00 00"},
			{frame.Frame{Kind: 2, Spans: spans(0, c.n)}, "02 @ 00 00 @"},
			{frame.Frame{Kind: 3, Delay: c.n, Spans: spans(7, 7), Ecn: [3]int{c.n, 1, 2}}, "03 07 @ 00 00 @ 01 02"},
			{frame.Frame{Kind: 3, Spans: spans(7, 7), Ecn: [3]int{1, c.n, 2}}, "03 07 00 00 00 01 @ 02"},
			{frame.Frame{Kind: 3, Spans: spans(7, 7), Ecn: [3]int{1, 2, c.n}}, "03 07 00 00 00 01 02 @"},
			{frame.Frame{Kind: 4, ID: c.n, Code: 1, N: 2}, "04 @ 01 02"},
			{frame.Frame{Kind: 4, ID: 1, Code: c.n, N: 2}, "04 01 @ 02"},
			{frame.Frame{Kind: 4, ID: 1, Code: 2, N: c.n}, "04 01 02 @"},
			{frame.Frame{Kind: 5, ID: c.n, Code: 1}, "05 @ 01"},
			{frame.Frame{Kind: 5, ID: 1, Code: c.n}, "05 01 @"},
			{frame.Frame{Kind: 6, At: c.n}, "06 @ 00"},
			{frame.Frame{Kind: 8, ID: c.n}, "0a @ 00"},
			{frame.Frame{Kind: 8, ID: c.n, At: 1}, "0e @ 01 00"},
			{frame.Frame{Kind: 16, N: c.n}, "10 @"},
			{frame.Frame{Kind: 17, ID: c.n, N: 1}, "11 @ 01"},
			{frame.Frame{Kind: 17, ID: 1, N: c.n}, "11 01 @"},
			{frame.Frame{Kind: 20, N: c.n}, "14 @"},
			{frame.Frame{Kind: 21, ID: c.n, N: 1}, "15 @ 01"},
			{frame.Frame{Kind: 21, ID: 1, N: c.n}, "15 01 @"},
			{frame.Frame{Kind: 24, N: num, At: c.n, Cid: []byte("c"), Data: []byte("0123456789abcdef")}, "18 ffffffffffffffff @ 01 63 30313233343536373839616263646566"},
			{frame.Frame{Kind: 24, N: c.n, At: c.n, Cid: []byte("c"), Data: []byte("0123456789abcdef")}, "18 @ @ 01 63 30313233343536373839616263646566"},
			{frame.Frame{Kind: 25, N: c.n}, "19 @"},
			{frame.Frame{Kind: 28, Code: c.n, N: 1}, "1c @ 01 00"},
			{frame.Frame{Kind: 28, Code: 1, N: c.n}, "1c 01 @ 00"},
			{frame.Frame{Kind: 29, Code: c.n}, "1d @ 00"},
		} {
			b := unhex(t, strings.ReplaceAll(s.b, "@", c.b))
			wantCheck(t, s.f, api.OK)
			wantBytes(t, s.f, b)
			wantFrames(t, b, s.f)
		}
	}
}

// P5.1, P5.2: a padding is of 1 to MaxData bytes.
func TestPadding(t *testing.T) {
	for _, n := range []int{1, 2, api.MaxData - 1, api.MaxData} {
		wantCheck(t, frame.Frame{N: n}, api.OK)
		wantBytes(t, frame.Frame{N: n}, make([]byte, n))
		wantFrames(t, make([]byte, n), frame.Frame{N: n})
	}
	for _, n := range []int{math.MinInt, -1, 0, api.MaxData + 1, num, math.MaxInt} {
		wantCheck(t, frame.Frame{N: n}, api.ErrField)
	}
}

// P5.1: Data of more than MaxData bytes is too much in every Kind, ahead of what else is wrong.
func TestHuge(t *testing.T) {
	for _, kind := range kinds() {
		f := right(t, kind)
		f.Data = make([]byte, api.MaxData+1)
		wantCheck(t, f, api.ErrHuge)
		f.ID, f.At, f.N, f.Code, f.Delay, f.Spans, f.Cid = -1, -1, -1, -1, -1, nil, nil
		wantCheck(t, f, api.ErrHuge)

		f = right(t, kind)
		f.Data = make([]byte, api.MaxData)
		switch kind {
		case 24, 26, 27:
			wantCheck(t, f, api.ErrField)
		default:
			wantCheck(t, f, api.OK)
		}
	}
}

// P5.2: Data of MaxData bytes goes whole into the bytes of a frame that has it, and into no other's.
func TestMostData(t *testing.T) {
	data := bytes.Repeat([]byte("q"), api.MaxData)
	for _, s := range []sample{
		{frame.Frame{Kind: 6, At: 1}, "06 01 80004000"},
		{frame.Frame{Kind: 7}, "07 80004000"},
		{frame.Frame{Kind: 8, ID: 2, Fin: true}, "0b 02 80004000"},
		{frame.Frame{Kind: 28, Code: 1, N: 2}, "1c 01 02 80004000"},
		{frame.Frame{Kind: 29, Code: 1}, "1d 01 80004000"},
	} {
		s.f.Data = data
		wantBytes(t, s.f, append(unhex(t, s.b), data...))
	}
	for _, kind := range []int{0, 1, 2, 3, 4, 5, 16, 17, 18, 19, 20, 21, 22, 23, 25, 30} {
		f := right(t, kind)
		b, _ := frame.Encode(f)
		f.Data = data
		wantBytes(t, f, b)
	}
}

// P5.1, P5.2: lists and Fin that the items don't name are not looked at.
func TestOtherFields(t *testing.T) {
	for _, kind := range kinds() {
		b, _ := frame.Encode(right(t, kind))
		f := right(t, kind)
		f.Fin = f.Fin || kind != 8
		if kind != 24 {
			f.Cid = make([]byte, api.MaxCid+9)
		}
		if kind != 2 && kind != 3 {
			f.Spans = spans(9, 3, -1, math.MaxInt)
		}
		wantCheck(t, f, api.OK)
		wantBytes(t, f, b)
	}
}

// P5.1, P5.3: where Data begins and how many bytes it has are together at most MaxNum.
func TestAtAndData(t *testing.T) {
	for _, kind := range []int{6, 8} {
		for _, n := range []int{0, 1, 2, 100, api.MaxData} {
			f := frame.Frame{Kind: kind, At: num - n, Data: make([]byte, n)}
			wantCheck(t, f, api.OK)
			f.At--
			wantCheck(t, f, api.OK)
			f.At += 2
			wantCheck(t, f, api.ErrField)
			f.At = num
			if n > 0 {
				wantCheck(t, f, api.ErrField)
			}
			f.At = math.MaxInt
			wantCheck(t, f, api.ErrField)
			f.At = math.MinInt
			wantCheck(t, f, api.ErrField)
		}
	}
	for _, c := range []struct {
		head string
		f    frame.Frame
	}{
		{"06", frame.Frame{Kind: 6}}, {"0e 04", frame.Frame{Kind: 8, ID: 4}}, {"0f 04", frame.Frame{Kind: 8, ID: 4, Fin: true}},
	} {
		c.f.At, c.f.Data = num-2, []byte("ab")
		wantFrames(t, unhex(t, c.head+"fffffffffffffffd 02 6162"), c.f)
		wantFault(t, unhex(t, c.head+"fffffffffffffffe 02 6162"), 0, api.ErrField)
		wantFault(t, unhex(t, c.head+"ffffffffffffffff 02 6162"), 0, api.ErrField)
		wantFault(t, unhex(t, "01"+c.head+"ffffffffffffffff 01 61 01"), 1, api.ErrField)
	}
	wantFrames(t, unhex(t, "0c 04 fffffffffffffffd 6162"), frame.Frame{Kind: 8, ID: 4, At: num - 2, Data: []byte("ab")})
	wantFault(t, unhex(t, "0c 04 fffffffffffffffe 6162"), 0, api.ErrField)
	wantFault(t, unhex(t, "0d 04 ffffffffffffffff 61"), 0, api.ErrField)
}

// P5.1, P5.3: a new token is not empty.
func TestToken(t *testing.T) {
	wantCheck(t, frame.Frame{Kind: 7}, api.ErrField)
	wantCheck(t, frame.Frame{Kind: 7, Data: []byte{}}, api.ErrField)
	wantCheck(t, frame.Frame{Kind: 7, Data: []byte{0}}, api.OK)
	wantFault(t, unhex(t, "07 00"), 0, api.ErrField)
	wantFault(t, unhex(t, "01 07 4000 01"), 1, api.ErrField)
}

// P5.1, P5.3: at most 2^60 streams.
func TestStreams(t *testing.T) {
	for kind, digits := range map[int]string{18: "12", 19: "13", 22: "16", 23: "17"} {
		for _, n := range []int{0, 1, 1<<60 - 1, 1 << 60} {
			wantCheck(t, frame.Frame{Kind: kind, N: n}, api.OK)
		}
		for _, n := range []int{1<<60 + 1, 1 << 61, num, num + 1, -1} {
			wantCheck(t, frame.Frame{Kind: kind, N: n}, api.ErrField)
		}
		wantFrames(t, unhex(t, digits+"d000000000000000"), frame.Frame{Kind: kind, N: 1 << 60})
		wantFault(t, unhex(t, digits+"d000000000000001"), 0, api.ErrField)
		wantFault(t, unhex(t, "01"+digits+"ffffffffffffffff"), 1, api.ErrField)
	}
	for _, kind := range []int{16, 20, 25} {
		wantCheck(t, frame.Frame{Kind: kind, N: 1<<60 + 1}, api.OK)
	}
}

// P5.1, P5.3: a new connection id has 1 to MaxCid bytes, 16 bytes behind it, and At is at most N.
func TestNewConnectionID(t *testing.T) {
	for n := range api.MaxCid + 5 {
		want := api.OK
		if n < 1 || n > api.MaxCid {
			want = api.ErrField
		}
		f := frame.Frame{Kind: 24, N: 9, At: 9, Cid: bytes.Repeat([]byte("c"), n), Data: bytes.Repeat([]byte("r"), 16)}
		wantCheck(t, f, want)
		b := slices.Concat([]byte{24, 9, 9, byte(n)}, f.Cid, f.Data)
		if want == api.OK {
			wantBytes(t, f, b)
			wantFrames(t, b, f)
		} else {
			wantFault(t, b, 0, want)
		}
		wantFault(t, b[:len(b)-1], 0, api.ErrShort)
	}
	for _, n := range []int{0, 1, 8, 15, 17, 32, api.MaxData} {
		f := right(t, 24)
		f.Data = make([]byte, n)
		wantCheck(t, f, api.ErrField)
	}
	f := right(t, 24)
	for _, c := range []struct {
		n, at int
		e     api.Errno
	}{{0, 0, api.OK}, {0, 1, api.ErrField}, {5, 4, api.OK}, {5, 5, api.OK}, {5, 6, api.ErrField}, {num, num, api.OK}, {num - 1, num, api.ErrField}} {
		f.N, f.At = c.n, c.at
		wantCheck(t, f, c.e)
	}
	rest := "01 63 30313233343536373839616263646566"
	wantFault(t, unhex(t, "18 05 06"+rest), 0, api.ErrField)
	wantFault(t, unhex(t, "1e 18 00 01"+rest+"01"), 1, api.ErrField)
	wantFault(t, append([]byte{24, 9, 9, 255}, make([]byte, 255+15)...), 0, api.ErrShort)
	wantFault(t, append([]byte{24, 9, 9, 255}, make([]byte, 255+16)...), 0, api.ErrField)
	f.N, f.At, f.Cid, f.Data = 0, 0, bytes.Repeat([]byte{0x40}, 20), bytes.Repeat([]byte{0}, 16)
	wantFrames(t, unhex(t, "18 00 00 14"+strings.Repeat("40", 20)+strings.Repeat("00", 17)), f, frame.Frame{N: 1})
}

// P5.1, P5.3: the frames of a path have 8 bytes.
func TestPath(t *testing.T) {
	for _, kind := range []int{26, 27} {
		for _, n := range []int{0, 1, 7, 9, 16, api.MaxData} {
			wantCheck(t, frame.Frame{Kind: kind, Data: make([]byte, n)}, api.ErrField)
		}
		for n := range 8 {
			wantFault(t, append([]byte{1, byte(kind)}, make([]byte, n)...), 1, api.ErrShort)
		}
		f := frame.Frame{Kind: kind, Data: make([]byte, 8)}
		wantFrames(t, append([]byte{byte(kind)}, make([]byte, 9)...), f, frame.Frame{N: 1})
	}
}

// P5.1: which spans an ack may have.
func TestSpans(t *testing.T) {
	good := [][]api.Span{
		spans(0, 0), spans(0, num), spans(num, num), spans(5, 9), spans(0, 0, 2, 2), spans(0, 3, 5, 9), spans(0, 3, 100, num),
		spans(0, num-2, num, num), apart(2), apart(api.MaxSpans - 1), apart(api.MaxSpans),
	}
	bad := [][]api.Span{
		nil, {}, apart(api.MaxSpans + 1), apart(1000), // none, too many
		spans(5, 4), spans(1, 0), spans(0, 0, 5, 4), spans(math.MaxInt, math.MinInt), // ends turned round
		spans(-1, 0), spans(-1, -1), spans(-5, 9), spans(math.MinInt, 0), spans(math.MinInt, math.MaxInt), spans(math.MinInt, math.MinInt), spans(-1, 3, 5, 9), spans(0, 3, -5, 9),
		spans(0, num+1), spans(num+1, num+1), spans(0, math.MaxInt), spans(math.MaxInt, math.MaxInt), spans(0, 3, 5, num+1), spans(0, math.MaxInt, 5, 9),
		spans(5, 9, 3, 3), spans(5, 9, 0, 0, 20, 20), spans(7, 7, 1, 1), // falling
		spans(0, 3, 4, 9), spans(0, 0, 1, 1), spans(0, num-1, num, num), // touching
		spans(0, 3, 3, 9), spans(0, 9, 5, 6), spans(0, 9, 5, 12), spans(4, 4, 4, 4), spans(3, 5, 0, 9), // overlapping
	}
	for _, kind := range []int{2, 3} {
		for _, list := range good {
			f := frame.Frame{Kind: kind, Spans: list}
			wantCheck(t, f, api.OK)
			b, _ := frame.Encode(f)
			wantFrames(t, b, f)
		}
		for _, list := range bad {
			wantCheck(t, frame.Frame{Kind: kind, Spans: list}, api.ErrField)
		}
		for i := range api.MaxSpans - 1 { // a wrong one among right ones, wherever it is
			list := apart(api.MaxSpans)
			list[i].To++
			wantCheck(t, frame.Frame{Kind: kind, Spans: list}, api.ErrField)
		}
	}
}

// P5.2: the items of an ack go from the last span to the first.
func TestAckItems(t *testing.T) {
	f := frame.Frame{Kind: 2, Spans: apart(api.MaxSpans), Delay: 3}
	wantBytes(t, f, unhex(t, "02 407e 03 3f 00"+strings.Repeat("0000", api.MaxSpans-1)))
	f = frame.Frame{Kind: 2, Spans: spans(0, 0, num, num)}
	wantBytes(t, f, unhex(t, "02 ffffffffffffffff 00 01 00 fffffffffffffffd 00"))
	f = frame.Frame{Kind: 2, Spans: spans(0, num-2, num, num)}
	wantBytes(t, f, unhex(t, "02 ffffffffffffffff 00 01 00 00 fffffffffffffffd"))
	f = frame.Frame{Kind: 2, Spans: spans(2, 3, 10, 12, 20, 24)}
	wantBytes(t, f, unhex(t, "02 18 00 02 04 06 02 05 01"))
}

// P5.5: what is handed in stays as it is, its spare room too; what is told shares nothing with it.
func TestMemoryOfEncode(t *testing.T) {
	for _, s := range samples() {
		f := s.f
		f.Data, f.Cid = padded(f.Data), padded(f.Cid)
		f.Spans = append(make([]api.Span, 0, len(f.Spans)+8), f.Spans...)
		data, cid, list := slices.Clone(f.Data[:cap(f.Data)]), slices.Clone(f.Cid[:cap(f.Cid)]), slices.Clone(f.Spans[:cap(f.Spans)])
		unchanged := func(what string) {
			t.Helper()
			if !bytes.Equal(f.Data[:cap(f.Data)], data) || !bytes.Equal(f.Cid[:cap(f.Cid)], cid) || !slices.Equal(f.Spans[:cap(f.Spans)], list) {
				t.Errorf("Kind %d: %s changed what was handed in", f.Kind, what)
			}
		}
		frame.Check(f)
		unchanged("Check")
		frame.Elicits(f)
		unchanged("Elicits")
		first, _ := frame.Encode(f)
		second, _ := frame.Encode(f)
		unchanged("Encode")
		spoil(first)
		unchanged("what Encode told")
		if !bytes.Equal(second, unhex(t, s.b)) {
			t.Errorf("Kind %d: two answers share memory", f.Kind)
		}
		spoil(f.Data)
		spoil(f.Cid)
		if !bytes.Equal(second, unhex(t, s.b)) {
			t.Errorf("Kind %d: an answer shares memory with what was handed in", f.Kind)
		}
	}
}

// padded: the same bytes with spare room behind.
func padded(b []byte) []byte {
	return append(append(make([]byte, 0, len(b)+32), b...), bytes.Repeat([]byte{0xee}, 32)...)[:len(b)]
}

// spoil changes all bytes, those of the spare room too.
func spoil(b []byte) {
	b = b[:cap(b)]
	for i := range b {
		b[i] ^= 0x55
	}
}

// P1: no call panics, whatever the fields are.
func TestNoPanicAtExtremes(t *testing.T) {
	extremes := []int{math.MinInt, -1, 0, 1, api.MaxData, num, num + 1, math.MaxInt}
	for _, kind := range append(kinds(), -1, 9, 31, math.MinInt, math.MaxInt) {
		for _, a := range extremes {
			for _, b := range extremes {
				for _, n := range []int{0, 1, 8, 16, api.MaxData, api.MaxData + 1} {
					f := frame.Frame{Kind: kind, ID: a, At: b, N: a, Code: b, Delay: a, Data: make([]byte, n), Cid: make([]byte, n), Spans: spans(a, b, b, a), Ecn: [3]int{a, b, a}}
					e := frame.Check(f)
					bs, got := frame.Encode(f)
					if got != e || (len(bs) > 0) != (e == api.OK) {
						t.Fatalf("Encode(%.100v): %d bytes, %d; Check: %d", f, len(bs), got, e)
					}
					frame.Elicits(f)
				}
			}
		}
	}
}

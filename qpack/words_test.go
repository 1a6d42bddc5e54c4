package qpack_test

import (
	"bytes"
	"encoding/hex"
	"slices"
	"strings"
	"testing"

	"turnpike/api"
	"turnpike/prefix"
	"turnpike/qpack"
)

// unhex: bytes from digits, blanks among them.
func unhex(t *testing.T, digits string) []byte {
	t.Helper()
	b, err := hex.DecodeString(strings.ReplaceAll(digits, " ", ""))
	if err != nil {
		t.Fatal(err)
	}
	return b
}

// fd: a field.
func fd(name, value string) api.Field {
	return api.Field{Name: name, Value: value}
}

// fds: a list of fields.
func fds(list ...api.Field) []api.Field {
	return list
}

// num: a number behind a prefix.
func num(n, bits int, first byte) []byte {
	b, e := prefix.Put(n, bits, first)
	if e != api.OK {
		panic(e)
	}
	return b
}

// txt: a text behind a prefix.
func txt(s string, bits int, first byte) []byte {
	b, e := prefix.PutText(s, bits, first)
	if e != api.OK {
		panic(e)
	}
	return b
}

// The instructions of an encoder, in the chapter's bits.
func capacityOf(n int) []byte { return num(n, 5, 0b00100000) }
func insertStatic(n int, value string) []byte {
	return slices.Concat(num(n, 6, 0b11000000), txt(value, 7, 0))
}
func insertDynamic(n int, value string) []byte {
	return slices.Concat(num(n, 6, 0b10000000), txt(value, 7, 0))
}
func insertOf(name, value string) []byte {
	return slices.Concat(txt(name, 5, 0b01000000), txt(value, 7, 0))
}
func repeatOf(n int) []byte { return num(n, 5, 0) }

// The instructions of a decoder.
func readOf(stream int) []byte      { return num(stream, 7, 0b10000000) }
func cancelledOf(stream int) []byte { return num(stream, 6, 0b01000000) }
func insertsOf(n int) []byte        { return num(n, 6, 0) }

// The lines of a section.
func lineStatic(n int) []byte  { return num(n, 6, 0b11000000) }
func lineDynamic(n int) []byte { return num(n, 6, 0b10000000) }
func linePast(n int) []byte    { return num(n, 4, 0b00010000) }
func lineStaticName(n int, value string) []byte {
	return slices.Concat(num(n, 4, 0b01010000), txt(value, 7, 0))
}
func lineDynamicName(n int, value string) []byte {
	return slices.Concat(num(n, 4, 0b01000000), txt(value, 7, 0))
}
func linePastName(n int, value string) []byte {
	return slices.Concat(num(n, 3, 0), txt(value, 7, 0))
}
func linePlain(name, value string) []byte {
	return slices.Concat(txt(name, 3, 0b00100000), txt(value, 7, 0))
}

// sectionOf: a section with a coded need, a delta (below 0: S 1 and -delta - 1) and lines.
func sectionOf(coded, delta int, lines ...[]byte) []byte {
	base := num(max(delta, 0), 7, 0)
	if delta < 0 {
		base = num(-delta-1, 7, 0b10000000)
	}
	return slices.Concat(num(coded, 8, 0), base, slices.Concat(lines...))
}

// encoder: one that is made with OK, its first Out taken off.
func encoder(t *testing.T, most, use int) *qpack.Encoder {
	t.Helper()
	x, e := qpack.NewEncoder(most, use)
	if x == nil || e != api.OK {
		t.Fatalf("NewEncoder(%d, %d): %v, %d", most, use, x, e)
	}
	x.Out()
	return x
}

// decoder: one that is made with OK.
func decoder(t *testing.T, most, blocked, limit int) *qpack.Decoder {
	t.Helper()
	d, e := qpack.NewDecoder(most, blocked, limit)
	if d == nil || e != api.OK {
		t.Fatalf("NewDecoder(%d, %d, %d): %v, %d", most, blocked, limit, d, e)
	}
	return d
}

// wantEncode asks Encode for a section.
func wantEncode(t *testing.T, x *qpack.Encoder, stream int, fields []api.Field, want []byte) {
	t.Helper()
	if b, e := x.Encode(stream, fields); !bytes.Equal(b, want) || e != api.OK {
		t.Errorf("Encode(%d, %.200v): %.100x, %d; want %.100x", stream, fields, b, e, want)
	}
}

// wantRefused asks Encode for an error, with nothing beside it and nothing to say.
func wantRefused(t *testing.T, x *qpack.Encoder, stream int, fields []api.Field, want api.Errno) {
	t.Helper()
	if b, e := x.Encode(stream, fields); len(b) != 0 || e != want {
		t.Errorf("Encode(%d, %.200v): %.100x, %d; want %d", stream, fields, b, e, want)
	}
	wantOut(t, x, nil)
}

// outs: both sides have an Out and a Feed.
type outs interface{ Out() []byte }
type feeds interface{ Feed(b []byte) api.Errno }

// wantOut asks Out for instructions, and then for none.
func wantOut(t *testing.T, o outs, want []byte) {
	t.Helper()
	if b := o.Out(); !bytes.Equal(b, want) {
		t.Errorf("Out: %.100x, want %.100x", b, want)
	}
	if b := o.Out(); len(b) != 0 {
		t.Errorf("Out once more: %.100x", b)
	}
}

// wantFeed asks Feed for an answer.
func wantFeed(t *testing.T, f feeds, b []byte, want api.Errno) {
	t.Helper()
	if e := f.Feed(b); e != want {
		t.Errorf("Feed(%.100x): %d, want %d", b, e, want)
	}
}

// wantFields asks Section for fields.
func wantFields(t *testing.T, d *qpack.Decoder, stream int, b []byte, want []api.Field) {
	t.Helper()
	if f, waits, e := d.Section(stream, b); !slices.Equal(f, want) || waits || e != api.OK {
		t.Errorf("Section(%d, %.100x): %.200v, %t, %d; want %.200v", stream, b, f, waits, e, want)
	}
}

// wantWaits asks Section to let a section wait.
func wantWaits(t *testing.T, d *qpack.Decoder, stream int, b []byte) {
	t.Helper()
	if f, waits, e := d.Section(stream, b); len(f) != 0 || !waits || e != api.OK {
		t.Errorf("Section(%d, %.100x): %.200v, %t, %d; it is to wait", stream, b, f, waits, e)
	}
}

// wantFault asks Section for an error and nothing beside it.
func wantFault(t *testing.T, d *qpack.Decoder, stream int, b []byte, want api.Errno) {
	t.Helper()
	if f, waits, e := d.Section(stream, b); len(f) != 0 || waits || e != want {
		t.Errorf("Section(%d, %.100x): %.200v, %t, %d; want %d", stream, b, f, waits, e, want)
	}
}

// wantReady asks Ready for sections, and then for none.
func wantReady(t *testing.T, d *qpack.Decoder, want ...qpack.Done) {
	t.Helper()
	same := func(a, b qpack.Done) bool {
		return a.Stream == b.Stream && a.Error == b.Error && slices.Equal(a.Fields, b.Fields)
	}
	if r := d.Ready(); !slices.EqualFunc(r, want, same) {
		t.Errorf("Ready: %.300v, want %.300v", r, want)
	}
	if r := d.Ready(); len(r) != 0 {
		t.Errorf("Ready once more: %.300v", r)
	}
}

// wantTable asks a decoder for all entries that are there: from the number oldest on these and no others. It asks by sections, which a decoder of any limit that is great enough answers; most is the decoder's.
func wantTable(t *testing.T, d *qpack.Decoder, most, oldest int, want ...api.Field) {
	t.Helper()
	count := oldest + len(want)
	ask := func(n int) ([]api.Field, api.Errno) {
		coded := count%(2*(most/32)) + 1
		f, waits, e := d.Section(0, sectionOf(coded, 0, lineDynamic(count-1-n)))
		if waits {
			t.Errorf("the count is below %d", count)
			d.Cancel(0)
		}
		return f, e
	}
	if count > 0 {
		for n := max(oldest-3, 0); n < oldest; n++ {
			if f, e := ask(n); e != api.ErrSection {
				t.Errorf("the entry %d: %.100v, %d; it has gone", n, f, e)
			}
		}
		for i, w := range want {
			if f, e := ask(oldest + i); !slices.Equal(f, fds(w)) || e != api.OK {
				t.Errorf("the entry %d: %.100v, %d; want %.100v", oldest+i, f, e, w)
			}
		}
	}
	d.Out()
}

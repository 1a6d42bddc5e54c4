package params_test

import (
	"bytes"
	"math/rand"
	"slices"
	"testing"

	"turnpike/api"
	"turnpike/params"
)

// wantParams asks Decode for these parameters and the place 0.
func wantParams(t *testing.T, b []byte, server bool, want params.Params) {
	t.Helper()
	if p, at, e := params.Decode(b, server); !same(p, want) || at != 0 || e != api.OK {
		t.Errorf("Decode of %.80x, server %v: %+v, %d, %d; want %+v", b, server, p, at, e, want)
	}
}

// wantFault asks Decode for an error at a place and no parameters.
func wantFault(t *testing.T, b []byte, server bool, at int, want api.Errno) {
	t.Helper()
	if p, place, e := params.Decode(b, server); !same(p, params.Params{}) || place != at || e != want {
		t.Errorf("Decode of %.80x, server %v: %+v, %d, %d; want %d at %d", b, server, p, place, e, want, at)
	}
}

// usualBut: the usual parameters with a change.
func usualBut(change func(p *params.Params)) params.Params {
	p := params.Usual()
	change(&p)
	return p
}

// ids: all that the table names.
func ids() []int {
	return []int{0, 1, 2, 3, 4, 5, 6, 7, 8, 9, 10, 11, 12, 14, 15, 16}
}

// valueFor: bytes that are right for the id that the table names.
func valueFor(id int) []byte {
	switch id {
	case 0, 15, 16:
		return []byte{7, 8}
	case 2:
		return run(16, 9)
	case 3:
		return []byte{0x44, 0xb0}
	case 12:
		return nil
	}
	return []byte{5}
}

// serverAlone: the ids that a client may not tell.
func serverAlone(id int) bool { return id == 0 || id == 2 || id == 16 }

// P9.3: the chapter's examples, nothing at all, and all at once.
func TestDecodeKnown(t *testing.T) {
	for _, server := range sides() {
		wantParams(t, nil, server, params.Usual())
		wantParams(t, []byte{}, server, params.Usual())
		wantParams(t, unhex(t, "01011e 0f020102"), server, usualBut(func(p *params.Params) { p.Idle, p.HasSrc, p.Src = 30, true, []byte{1, 2} }))
		wantFault(t, unhex(t, "01011e 01011e"), server, 3, api.ErrTwice)
		wantFault(t, unhex(t, "030244af"), server, 0, api.ErrParam)
		wantParams(t, encodingOf(allOf(server)), server, allOf(server))
	}
	wantFault(t, told(2, run(16, 0)), false, 0, api.ErrParam)
	wantFault(t, encodingOf(allOf(true)), false, 0, api.ErrParam)
	wantParams(t, encodingOf(allOf(false)), true, allOf(false))
}

// P9.3: parameters may stand in any order.
func TestDecodeAnyOrder(t *testing.T) {
	r := rand.New(rand.NewSource(9))
	want := allOf(true)
	var items [][]byte
	whole := encodingOf(want)
	for len(whole) > 0 {
		n := 2 + int(whole[1])
		items = append(items, whole[:n])
		whole = whole[n:]
	}
	if len(items) != len(ids()) {
		t.Fatalf("%d parameters", len(items))
	}
	for range 200 {
		r.Shuffle(len(items), func(i, j int) { items[i], items[j] = items[j], items[i] })
		wantParams(t, slices.Concat(items...), true, want)
	}
}

// P9.3: each number at the edges, told in every form that holds it; the usual one may be told too.
func TestDecodeNumbers(t *testing.T) {
	for _, server := range sides() {
		for _, l := range numberLines() {
			for _, n := range append(edges(), l.usual) {
				if n < 0 || n > api.MaxNum {
					continue
				}
				for _, size := range []int{1, 2, 4, 8} {
					if size < len(shortest(n)) {
						continue
					}
					b := told(l.id, formOf(n, size))
					if n < l.least || n > l.most {
						wantFault(t, b, server, 0, api.ErrParam)
						wantFault(t, append([]byte{12, 0}, b...), server, 2, api.ErrParam)
						continue
					}
					wantParams(t, b, server, usualBut(func(p *params.Params) { *l.at(p) = n }))
				}
			}
		}
	}
}

// P9.3: a number that doesn't fill its value, one that overruns it, and none at all.
func TestDecodeValuesThatAreNoNumber(t *testing.T) {
	for _, server := range sides() {
		for _, l := range numberLines() {
			wantFault(t, []byte{byte(l.id), 0}, server, 0, api.ErrParam)
			for _, size := range []int{1, 2, 4, 8} {
				n := l.usual
				if size < len(shortest(n)) {
					continue
				}
				right := formOf(n, size)
				wantParams(t, told(l.id, right), server, params.Usual())
				wantFault(t, told(l.id, append(slices.Clone(right), 0)), server, 0, api.ErrParam)
				wantFault(t, told(l.id, append(slices.Clone(right), right...)), server, 0, api.ErrParam)
				for cut := range size {
					b := told(l.id, right[:cut])
					wantFault(t, b, server, 0, api.ErrParam)
					wantFault(t, slices.Concat([]byte{33, 1, 5}, b), server, 3, api.ErrParam)
					wantFault(t, slices.Concat(b, []byte{33, 0, 34, 0, 35, 0}), server, 0, api.ErrParam)
				}
			}
		}
	}
}

// P9.3: the mark has no value.
func TestDecodeNoMove(t *testing.T) {
	for _, server := range sides() {
		moved := usualBut(func(p *params.Params) { p.NoMove = true })
		wantParams(t, []byte{12, 0}, server, moved)
		wantParams(t, []byte{12, 0x40, 0}, server, moved)
		for _, n := range []int{1, 2, 64, 300} {
			wantFault(t, told(12, make([]byte, n)), server, 0, api.ErrParam)
			wantFault(t, told(12, bytes.Repeat([]byte{1}, n)), server, 0, api.ErrParam)
		}
	}
}

// P9.3: bytes of each length, by either side.
func TestDecodeBytes(t *testing.T) {
	for _, server := range sides() {
		for _, l := range bytesLines() {
			for _, n := range lengths() {
				b := told(l.id, run(n, 11))
				switch {
				case len(b) > api.MaxData:
					wantFault(t, b, server, 0, api.ErrHuge)
				case n < l.least || n > l.most || l.serverAlone && !server:
					wantFault(t, b, server, 0, api.ErrParam)
					wantFault(t, append([]byte{1, 1, 30}, b...), server, 3, api.ErrParam)
				default:
					wantParams(t, b, server, usualBut(func(p *params.Params) { *l.has(p), *l.at(p) = true, run(n, 11) }))
				}
			}
		}
	}
}

// P9.3: ids and lengths in longer forms.
func TestDecodeLongForms(t *testing.T) {
	for _, id := range ids() {
		value := valueFor(id)
		want, _, e := params.Decode(told(id, value), true)
		if e != api.OK || same(want, params.Usual()) {
			t.Fatalf("%d: %+v, %d", id, want, e)
		}
		for _, a := range []int{1, 2, 4, 8} {
			for _, b := range []int{1, 2, 4, 8} {
				wantParams(t, slices.Concat(formOf(id, a), formOf(len(value), b), value), true, want)
			}
		}
	}
	wantFault(t, unhex(t, "4001 01 1e 01 01 1e"), true, 4, api.ErrTwice)
	wantFault(t, unhex(t, "01 01 1e 80000001 01 1e"), true, 3, api.ErrTwice)
	wantFault(t, unhex(t, "01 01 1e c000000000000001 01 1e"), true, 3, api.ErrTwice)
	wantFault(t, unhex(t, "4002 10 000102030405060708090a0b0c0d0e0f"), false, 0, api.ErrParam)
}

// P9.3: bytes that are cut at each place: what is whole ahead of the cut is taken, or the parameter that is cut is told.
func TestDecodeCut(t *testing.T) {
	for _, server := range sides() {
		whole := encodingOf(allOf(server))
		begins := map[int]bool{}
		for at := 0; at < len(whole); at += 2 + int(whole[at+1]) {
			begins[at] = true
		}
		last := 0
		for n := range whole {
			if !begins[n] {
				wantFault(t, whole[:n], server, last, api.ErrShort)
				continue
			}
			last = n
			p, at, e := params.Decode(whole[:n], server)
			if b := encodingOf(p); at != 0 || e != api.OK || !bytes.Equal(b, whole[:n]) {
				t.Errorf("cut at %d: %+v, %d, %d", n, p, at, e)
			}
		}
	}
	for _, b := range []string{"40", "80", "c00000", "01", "4001", "01 40", "0140", "01 c0000000000000", "01 01", "21 01", "21 02 00", "0c 01", "01 ffffffffffffffff", "01 ffffffffffffffff 05", "3f 7fff 00", "ff", "ffffffffffffffff", "ffffffffffffffff 01", "02 10 000102030405060708090a0b0c0d0e"} {
		wantFault(t, unhex(t, b), true, 0, api.ErrShort)
		wantFault(t, unhex(t, b), false, 0, api.ErrShort)
		wantFault(t, unhex(t, "0e0102 22023132"+b), true, 7, api.ErrShort)
	}
}

// P9.3: ids that the table doesn't name, with any value, once.
func TestDecodePassesOver(t *testing.T) {
	for _, server := range sides() {
		for _, id := range []int{13, 17, 18, 33, 63, 64, 16383, 16384, 1 << 30, 1<<32 + 1, 1 << 60, 1<<62 - 2, 1<<62 - 1} {
			for _, n := range []int{0, 1, 2, 8, 21, 64, 16000} {
				b := told(id, run(n, 1))
				wantParams(t, b, server, params.Usual())
				both := slices.Concat([]byte{1, 1, 30}, b, []byte{15, 1, 9})
				wantParams(t, both, server, usualBut(func(p *params.Params) { p.Idle, p.HasSrc, p.Src = 30, true, []byte{9} }))
			}
		}
	}
}

// P9.3: no id may be there twice, whatever stands between, in whatever form, and whatever its value is.
func TestDecodeTwice(t *testing.T) {
	all := append(ids(), 13, 17, 33, 63)
	for _, id := range all {
		value := valueFor(id)
		once := told(id, value)
		for _, server := range sides() {
			if serverAlone(id) && !server {
				wantFault(t, slices.Concat(once, once), server, 0, api.ErrParam)
				continue
			}
			for _, size := range []int{1, 2, 4, 8} {
				again := slices.Concat(formOf(id, size), shortest(len(value)), value)
				wantFault(t, slices.Concat(once, again), server, len(once), api.ErrTwice)
				wantFault(t, slices.Concat(again, once), server, len(again), api.ErrTwice)
				between := []byte{62, 1, 0, 61, 0}
				wantFault(t, slices.Concat(once, between, again), server, len(once)+5, api.ErrTwice)
			}
		}
	}
	for _, id := range []int{64, 16384, 1 << 30, 1<<62 - 1} {
		wantFault(t, slices.Concat(told(id, nil), told(id, []byte{1})), true, len(told(id, nil)), api.ErrTwice)
	}
	wantParams(t, slices.Concat(told(17, nil), told(17+1<<32, nil), told(17+64, nil), told(17+256, nil)), true, params.Usual())
}

// P9.3: of one parameter what is missing is told ahead of what was there, and that ahead of what is wrong.
func TestDecodeOrderOfErrors(t *testing.T) {
	for _, id := range ids() {
		once := told(id, valueFor(id))
		wantFault(t, slices.Concat(once, []byte{byte(id)}), true, len(once), api.ErrShort)
		wantFault(t, slices.Concat(once, []byte{byte(id), 0x40}), true, len(once), api.ErrShort)
		wantFault(t, slices.Concat(once, []byte{byte(id), 3, 0, 0}), true, len(once), api.ErrShort)
		wantFault(t, slices.Concat(once, told(id, run(30, 0xc1))), true, len(once), api.ErrTwice)
	}
	wantFault(t, unhex(t, "01011e 0100"), true, 3, api.ErrTwice)
	wantFault(t, unhex(t, "0c00 0c0100"), true, 2, api.ErrTwice)
	wantFault(t, unhex(t, "0102"), true, 0, api.ErrShort)
	wantFault(t, unhex(t, "0c0141 0c"), true, 0, api.ErrParam)
	wantFault(t, unhex(t, "0203 0102"), false, 0, api.ErrShort)
	wantFault(t, unhex(t, "0203 010203"), false, 0, api.ErrParam)
	wantFault(t, unhex(t, "0000"), false, 0, api.ErrParam)
	wantParams(t, unhex(t, "0000"), true, usualBut(func(p *params.Params) { p.HasOrig = true }))
}

// P9.3: the first parameter that can't be taken is told, whatever stands behind it.
func TestDecodeFirstFault(t *testing.T) {
	wrong := map[api.Errno]string{api.ErrTwice: "0c00", api.ErrParam: "0e0101"}
	for e, a := range wrong {
		for _, b := range wrong {
			wantFault(t, unhex(t, "0c00 01011e"+a+b+"01"), true, 5, e)
			wantFault(t, unhex(t, "0c00 01011e"+a+b+"01"), false, 5, e)
		}
	}
	wantFault(t, unhex(t, "0e0101 01"), true, 0, api.ErrParam)
	wantFault(t, unhex(t, "0a0115 0a0115"), true, 0, api.ErrParam)
	wantFault(t, unhex(t, "01011e 0a0114 0b044000 3fff"), true, 6, api.ErrParam)
}

// P9.3: as many bytes as may be, and one more.
func TestDecodeSizes(t *testing.T) {
	for _, server := range sides() {
		most := told(33, make([]byte, api.MaxData-3)) // an id of one byte, a length of two
		if len(most) != api.MaxData {
			t.Fatalf("%d bytes", len(most))
		}
		wantParams(t, most, server, params.Usual())
		wantFault(t, most[:api.MaxData-1], server, 0, api.ErrShort)
		wantFault(t, append(slices.Clone(most), 0), server, 0, api.ErrHuge)
		wantFault(t, append(slices.Clone(most), 40, 0), server, 0, api.ErrHuge)
		wantFault(t, append([]byte{1}, most...), server, 0, api.ErrHuge)
		wantFault(t, make([]byte, api.MaxData+1), server, 0, api.ErrHuge)
		wantFault(t, make([]byte, 1<<20), server, 0, api.ErrHuge)
		wantFault(t, make([]byte, api.MaxData), true, 2, api.ErrTwice)
	}
}

// manyIds: parameters that the table doesn't name, each id but once.
func manyIds() []byte {
	var b []byte
	for id := 17; len(b) <= api.MaxData-3; id++ {
		b = append(b, told(id, nil)...)
	}
	return b
}

// P9.3: ids are remembered, however many they are.
func TestDecodeManyIds(t *testing.T) {
	b := manyIds()
	wantParams(t, b, true, params.Usual())
	b = b[:len(b)-3]
	for _, id := range []int{17, 18, 63, 64, 1000, 5000} {
		wantFault(t, append(slices.Clone(b), told(id, nil)...), true, len(b), api.ErrTwice)
	}
}

// P9.4: Decode leaves what is handed in as it is; what it tells shares memory neither with it nor with itself.
func TestMemoryOfDecode(t *testing.T) {
	want := allOf(true)
	b := padded(encodingOf(want))
	before := slices.Clone(b[:cap(b)])
	first, _, _ := params.Decode(b, true)
	second, _, _ := params.Decode(b, true)
	params.Decode(b, false)
	params.Decode(b[:len(b)-1], true)
	for _, l := range bytesLines() {
		spoil(*l.at(&first))
		for _, other := range bytesLines() {
			if other.id > l.id && !bytes.Equal(*other.at(&first), *other.at(&want)) {
				t.Errorf("%s and %s share memory", l.name, other.name)
			}
		}
	}
	if !bytes.Equal(b[:cap(b)], before) {
		t.Errorf("what was handed in has changed, or shares memory with what is told")
	}
	first, _, _ = params.Decode(b, true)
	for _, l := range slices.Backward(bytesLines()) {
		spoil(*l.at(&first))
		for _, other := range bytesLines() {
			if other.id < l.id && !bytes.Equal(*other.at(&first), *other.at(&want)) {
				t.Errorf("%s and %s share memory", l.name, other.name)
			}
		}
	}
	spoil(b)
	if !same(second, want) {
		t.Errorf("two answers share memory, or one with what was handed in")
	}
	if again, _, _ := params.Decode(encodingOf(want), true); !same(again, want) {
		t.Errorf("an answer hangs on what was done with another")
	}
}

// numberAt: the number whose form begins at a place, and the place behind it; -1, if it is not there whole.
func numberAt(b []byte, at int) (n, end int) {
	if at >= len(b) || at+1<<(b[at]>>6) > len(b) {
		return 0, -1
	}
	end = at + 1<<(b[at]>>6)
	n = int(b[at] & 63)
	for _, digit := range b[at+1 : end] {
		n = n*256 + int(digit)
	}
	return n, end
}

// modelTake: the parameter of an id with a value, by the table's lines; false, if it is none.
func modelTake(p *params.Params, id int, value []byte, server bool) bool {
	for _, l := range numberLines() {
		if l.id == id {
			n, end := numberAt(value, 0)
			*l.at(p) = n
			return end == len(value) && n >= l.least && n <= l.most
		}
	}
	for _, l := range bytesLines() {
		if l.id == id {
			*l.has(p), *l.at(p) = true, value
			return len(value) >= l.least && len(value) <= l.most && (server || !l.serverAlone)
		}
	}
	if id == 12 {
		p.NoMove = true
		return len(value) == 0
	}
	return true
}

// modelDecode: what the bytes tell, by the chapter's words.
func modelDecode(b []byte, server bool) (p params.Params, at int, e api.Errno) {
	p = params.Usual()
	var had []int
	for at < len(b) {
		id, end := numberAt(b, at)
		if end < 0 {
			return params.Params{}, at, api.ErrShort
		}
		length, end := numberAt(b, end)
		if end < 0 || length > len(b)-end {
			return params.Params{}, at, api.ErrShort
		}
		if slices.Contains(had, id) {
			return params.Params{}, at, api.ErrTwice
		}
		had = append(had, id)
		if !modelTake(&p, id, b[end:end+length], server) {
			return params.Params{}, at, api.ErrParam
		}
		at = end + length
	}
	return p, 0, api.OK
}

// randomForm: a number in a form that holds it, mostly the shortest.
func randomForm(r *rand.Rand, n int) []byte {
	size := len(shortest(n))
	for size < 8 && r.Intn(6) == 0 {
		size *= 2
	}
	return formOf(n, size)
}

// randomValue: a value that is mostly right for an id.
func randomValue(r *rand.Rand, id int) []byte {
	switch r.Intn(12) {
	case 0:
		return run(r.Intn(24), r.Intn(256))
	case 1:
		list := slices.DeleteFunc(edges(), func(n int) bool { return n < 0 || n > api.MaxNum })
		return randomForm(r, list[r.Intn(len(list))])
	case 2:
		return append(valueFor(id), byte(r.Intn(256)))
	}
	return valueFor(id)
}

// randomBytes: parameters that are mostly right.
func randomBytes(r *rand.Rand) []byte {
	var b []byte
	for range r.Intn(7) {
		id := r.Intn(20)
		value := randomValue(r, id)
		b = slices.Concat(b, randomForm(r, id), randomForm(r, len(value)), value)
	}
	if len(b) > 0 && r.Intn(5) == 0 {
		b[r.Intn(len(b))] = byte(r.Intn(256))
	}
	if r.Intn(8) == 0 {
		b = b[:r.Intn(len(b)+1)]
	}
	return b
}

// P1, P9.1 to P9.3: Decode against the chapter's words; what is told is right, and goes to bytes and back.
func TestDecodeAgainstModel(t *testing.T) {
	r := rand.New(rand.NewSource(91))
	seen := map[api.Errno]int{}
	for range 100000 {
		b, server := randomBytes(r), r.Intn(3) > 0
		p, at, e := modelDecode(b, server)
		seen[e]++
		if e != api.OK {
			wantFault(t, b, server, at, e)
			continue
		}
		wantParams(t, b, server, p)
		wantCheck(t, p, server, api.OK)
		wantBytes(t, p, server, encodingOf(p))
		wantParams(t, encodingOf(p), server, p)
		if t.Failed() {
			return
		}
	}
	for _, e := range []api.Errno{api.OK, api.ErrShort, api.ErrTwice, api.ErrParam} {
		if seen[e] < 1000 {
			t.Errorf("the bytes brought %d only %d times", e, seen[e])
		}
	}
}

// P1: bytes of no sense.
func TestDecodeAnyBytes(t *testing.T) {
	r := rand.New(rand.NewSource(92))
	for range 50000 {
		b := make([]byte, r.Intn(40))
		r.Read(b)
		for _, server := range sides() {
			if p, at, e := modelDecode(b, server); e != api.OK {
				wantFault(t, b, server, at, e)
			} else {
				wantParams(t, b, server, p)
			}
		}
	}
}

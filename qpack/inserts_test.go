package qpack_test

import (
	"math"
	"slices"
	"strings"
	"testing"

	"turnpike/api"
	"turnpike/qpack"
)

const tableMost = 1000 // the greatest capacity of most decoders here: 31 entries, so needs wrap at 62

// filled: a decoder with a capacity and entries, what it had to say taken off.
func filled(t *testing.T, capacity int, entries ...api.Field) *qpack.Decoder {
	t.Helper()
	d := decoder(t, tableMost, 10, 1<<20)
	wantFeed(t, d, capacityOf(capacity), api.OK)
	for _, f := range entries {
		wantFeed(t, d, insertOf(f.Name, f.Value), api.OK)
	}
	d.Out()
	return d
}

// letters: entries of size 34: a b, c d, e f ..
func letters(n int) []api.Field {
	var list []api.Field
	for i := range n {
		list = append(list, fd(string(rune('a'+2*i)), string(rune('b'+2*i))))
	}
	return list
}

// P16.5: the bounds of each number.
func TestNewDecoderBounds(t *testing.T) {
	const top = 1 << 20
	for _, c := range []struct {
		most, blocked, limit int
		e                    api.Errno
	}{
		{0, 0, 0, api.OK}, {1, 1, 1, api.OK}, {top, 1024, top, api.OK}, {top, 0, 0, api.OK}, {0, 1024, 0, api.OK}, {0, 0, top, api.OK}, {top - 1, 1023, top - 1, api.OK},
		{-1, 0, 0, api.ErrRange}, {top + 1, 0, 0, api.ErrRange}, {math.MinInt, 5, 5, api.ErrRange}, {math.MaxInt, 5, 5, api.ErrRange}, {1 << 32, 0, 0, api.ErrRange},
		{0, -1, 0, api.ErrRange}, {0, 1025, 0, api.ErrRange}, {5, math.MinInt, 5, api.ErrRange}, {5, math.MaxInt, 5, api.ErrRange}, {0, 1 << 32, 0, api.ErrRange},
		{0, 0, -1, api.ErrRange}, {0, 0, top + 1, api.ErrRange}, {5, 5, math.MinInt, api.ErrRange}, {5, 5, math.MaxInt, api.ErrRange}, {0, 0, 1 << 32, api.ErrRange},
		{-1, -1, -1, api.ErrRange}, {top + 1, 1025, top + 1, api.ErrRange},
	} {
		if d, e := qpack.NewDecoder(c.most, c.blocked, c.limit); e != c.e || (d == nil) != (e != api.OK) {
			t.Errorf("NewDecoder(%d, %d, %d): %v, %d; want %d", c.most, c.blocked, c.limit, d, e, c.e)
		}
	}
}

// P16.6: each kind of insert, with entries of both tables.
func TestInserts(t *testing.T) {
	d := decoder(t, tableMost, 0, 1<<20)
	wantFeed(t, d, unhex(t, "3fa901"), api.OK) // 200
	wantOut(t, d, nil)
	wantFeed(t, d, unhex(t, "4161 0162"), api.OK)
	wantOut(t, d, []byte{1})
	wantFeed(t, d, unhex(t, "80 0163"), api.OK) // the name of the entry 0
	wantFeed(t, d, unhex(t, "ca 0164"), api.OK) // the name of the static entry 10
	wantOut(t, d, []byte{1, 1})
	wantFeed(t, d, unhex(t, "02"), api.OK) // the entry 0 once more
	wantOut(t, d, []byte{1})
	wantTable(t, d, tableMost, 0, fd("a", "b"), fd("a", "c"), fd(":method", "d"), fd("a", "b"))
	wantFeed(t, d, unhex(t, "6218c7 8218c7"), api.OK) // coded texts
	wantOut(t, d, []byte{1})
	wantTable(t, d, tableMost, 0, fd("a", "b"), fd("a", "c"), fd(":method", "d"), fd("a", "b"), fd("aaa", "aaa"))
}

// P16.6: the name of each static entry, and of those that there are none.
func TestInsertsWithStaticNames(t *testing.T) {
	for n, f := range staticTable() {
		wantTable(t, feeding(t, insertStatic(n, "v")), tableMost, 0, fd(f.Name, "v"))
	}
	for _, n := range []int{40, 41, 62, 63, 64, 1000, 1 << 32, 1<<32 + 10, api.MaxNum} {
		wantFeed(t, filled(t, tableMost), insertStatic(n, "v"), api.ErrIndex)
	}
}

// feeding: a decoder with room that has taken some bytes.
func feeding(t *testing.T, b []byte) *qpack.Decoder {
	t.Helper()
	d := filled(t, tableMost)
	wantFeed(t, d, b, api.OK)
	return d
}

// P16.6: the name of each dynamic entry that is there, and each of them once more; not of one that has gone or has not come.
func TestInsertsOfDynamicEntries(t *testing.T) {
	five := letters(5)
	for n := range 6 {
		for _, b := range [][]byte{insertDynamic(n, "v"), repeatOf(n)} {
			// Of five entries the first went: with four times 34 the table is as full as it can be.
			d := filled(t, 4*34, five...)
			if n > 3 {
				wantFeed(t, d, b, api.ErrIndex)
				wantOut(t, d, nil)
				continue
			}
			wantFeed(t, d, b, api.OK)
			want := five[4-n]
			if len(b) > 1 {
				want.Value = "v"
			}
			wantOut(t, d, []byte{1})
			wantTable(t, d, tableMost, 2, five[2], five[3], five[4], want)
		}
	}
	for _, n := range []int{0, 1, 30, 31, 32, 62, 63, 64, 1 << 40, api.MaxNum - 1, api.MaxNum} {
		for _, b := range [][]byte{insertDynamic(n, "v"), repeatOf(n)} {
			wantFeed(t, filled(t, tableMost), b, api.ErrIndex)
		}
	}
	// A number of more than one byte.
	many := slices.Repeat(letters(1), 29)
	for _, b := range [][]byte{insertDynamic(28, "v"), repeatOf(28)} {
		wantFeed(t, filled(t, tableMost, many...), b, api.OK)
	}
	big := decoder(t, 1<<20, 0, 1<<20)
	wantFeed(t, big, capacityOf(1<<20), api.OK)
	wantFeed(t, big, insertOf("first", "x"), api.OK)
	wantFeed(t, big, slices.Repeat(insertOf("a", "b"), 200), api.OK)
	wantFeed(t, big, slices.Concat(insertDynamic(200, "y"), repeatOf(201)), api.OK)
	wantFields(t, big, 0, sectionOf(204, 0, lineDynamic(1), lineDynamic(0)), fds(fd("first", "y"), fd("first", "x")))
	wantFeed(t, big, repeatOf(203), api.ErrIndex)
}

// P16.6: an insert may name the entry that goes by it.
func TestInsertsOfWhatGoes(t *testing.T) {
	for _, b := range [][]byte{insertDynamic(0, "long"), repeatOf(0)} {
		d := filled(t, 40, fd("name", ""))
		wantFeed(t, d, b, api.OK)
		value := ""
		if len(b) > 1 {
			value = "long"
		}
		wantTable(t, d, tableMost, 1, fd("name", value))
	}
}

// P16.6: an entry as great as the capacity, and one more; whatever its name comes from.
func TestInsertsAndCapacity(t *testing.T) {
	for _, c := range []struct {
		b    []byte
		size int
		f    api.Field
	}{
		{insertOf("", ""), 32, fd("", "")},
		{insertOf("abc", "defg"), 39, fd("abc", "defg")},
		{insertOf("", "aaaaaaaaaa"), 42, fd("", "aaaaaaaaaa")}, // coded it is shorter, which does not count
		{insertOf("aaaaaaaaaa", ""), 42, fd("aaaaaaaaaa", "")},
		{insertStatic(1, ""), 37, fd(":path", "")},
		{insertStatic(38, "ab"), 49, fd("x-forwarded-for", "ab")},
	} {
		d := filled(t, c.size)
		wantFeed(t, d, c.b, api.OK)
		wantOut(t, d, []byte{1})
		wantTable(t, d, tableMost, 0, c.f)
		for _, capacity := range []int{c.size - 1, 31, 1, 0} {
			d = filled(t, capacity)
			wantFeed(t, d, c.b, api.ErrCapacity)
			wantOut(t, d, nil)
		}
	}
	d := filled(t, 40, fd("name", "v"))
	wantFeed(t, d, insertDynamic(0, "vals"), api.OK)
	wantFeed(t, d, insertDynamic(0, "value"), api.ErrCapacity)
	wantFault(t, d, 0, []byte{0, 0}, api.ErrCapacity)
	// The capacity is 0 at first.
	wantFeed(t, decoder(t, 1<<20, 0, 0), insertOf("", ""), api.ErrCapacity)
	wantFeed(t, decoder(t, 31, 0, 0), slices.Concat(capacityOf(31), insertOf("", "")), api.ErrCapacity)
}

// P16.6: capacities up to the greatest, and above.
func TestCapacities(t *testing.T) {
	for _, most := range []int{0, 1, 30, 31, 32, 200, 1 << 20} {
		for _, n := range []int{0, most / 2, most} {
			d := decoder(t, most, 0, 0)
			wantFeed(t, d, capacityOf(n), api.OK)
			wantFeed(t, d, capacityOf(most), api.OK)
			wantFeed(t, d, capacityOf(0), api.OK)
			wantOut(t, d, nil)
		}
		for _, n := range []int{most + 1, most + 2, 1 << 21, 1 << 32, 1<<32 + most, api.MaxNum} {
			wantFeed(t, decoder(t, most, 0, 0), capacityOf(n), api.ErrCapacity)
		}
	}
}

// P16.6: entries go, the oldest first, as many as must: where the capacity falls, and where one is inserted; they do not come back where it rises.
func TestEntriesGo(t *testing.T) {
	four := letters(4) // 136
	for _, c := range []struct{ capacity, gone int }{{1000, 0}, {136, 0}, {135, 1}, {102, 1}, {101, 2}, {68, 2}, {67, 3}, {34, 3}, {33, 4}, {1, 4}, {0, 4}} {
		d := filled(t, 136, four...)
		wantFeed(t, d, capacityOf(c.capacity), api.OK)
		wantOut(t, d, nil)
		wantTable(t, d, tableMost, c.gone, four[c.gone:]...)
		wantFeed(t, d, capacityOf(1000), api.OK)
		wantTable(t, d, tableMost, c.gone, four[c.gone:]...)
		wantFeed(t, d, insertOf("x", "y"), api.OK)
		wantTable(t, d, tableMost, c.gone, append(slices.Clone(four[c.gone:]), fd("x", "y"))...)
	}
	for _, c := range []struct{ capacity, size, gone int }{{140, 32, 1}, {168, 32, 0}, {167, 32, 1}, {170, 34, 0}, {170, 35, 1}, {140, 38, 1}, {140, 39, 2}, {140, 72, 2}, {140, 73, 3}, {140, 106, 3}, {140, 107, 4}, {140, 140, 4}} {
		d := filled(t, c.capacity, four...)
		value := strings.Repeat("v", c.size-32)
		wantFeed(t, d, insertOf("", value), api.OK)
		wantOut(t, d, []byte{1})
		wantTable(t, d, tableMost, c.gone, append(slices.Clone(four[c.gone:]), fd("", value))...)
	}
	// One that can't be inserted lets none go.
	d := filled(t, 136, four...)
	wantFeed(t, d, insertOf("", strings.Repeat("v", 136-31)), api.ErrCapacity)
}

// P16.6: a life of many entries, whose numbers go on.
func TestManyEntries(t *testing.T) {
	d := filled(t, 100)
	for n := range 500 {
		f := fd("", string(rune('a'+n%26)))
		wantFeed(t, d, insertOf(f.Name, f.Value), api.OK)
		want := fds(f)
		for back := 1; back < 3 && back <= n; back++ {
			want = slices.Insert(want, 0, fd("", string(rune('a'+(n-back)%26))))
		}
		wantTable(t, d, tableMost, max(n-2, 0), want...)
	}
}

// P16.6: how many inserts came is told once for each Feed that brought some.
func TestInsertsAreTold(t *testing.T) {
	for _, n := range []int{1, 2, 62, 63, 64, 190, 191, 1000} {
		d := filled(t, 100)
		wantFeed(t, d, slices.Repeat(insertOf("a", "b"), n), api.OK)
		wantOut(t, d, insertsOf(n))
	}
	d := filled(t, 100)
	wantFeed(t, d, slices.Concat(insertOf("a", "b"), capacityOf(60), insertOf("a", "c"), capacityOf(50), repeatOf(0)), api.OK)
	wantFeed(t, d, nil, api.OK)
	wantFeed(t, d, capacityOf(70), api.OK)
	wantFeed(t, d, repeatOf(0), api.OK)
	wantOut(t, d, []byte{3, 1})
}

// instructionSamples: instructions of each kind, with numbers and texts of one byte and of more, which a decoder with the entries of sampleStart takes.
func instructionSamples() [][]byte {
	long := strings.Repeat("&", 140)
	return [][]byte{
		capacityOf(900), capacityOf(20), capacityOf(31), capacityOf(0),
		insertStatic(10, "v"), insertStatic(39, ""), insertStatic(1, "aaaaaaaa"), insertStatic(1, long),
		insertDynamic(0, "v"), insertDynamic(1, ""), insertDynamic(1, "aaaaaaaa"), insertDynamic(0, long),
		insertOf("a", "b"), insertOf("", ""), insertOf("aaaaaaa", "aaaaaaaaaaa"), insertOf(long, long),
		repeatOf(0), repeatOf(1),
	}
}

// sampleStart: a decoder with two entries.
func sampleStart(t *testing.T) *qpack.Decoder {
	t.Helper()
	return filled(t, tableMost, fd("one", "1"), fd("two", "2"))
}

// dump: what can be told of a decoder's table, up to 8 inserts more than two; its errors too.
func dump(d *qpack.Decoder) string {
	var told strings.Builder
	for need := 1; need <= 10; need++ {
		for n := range need {
			f, waits, e := d.Section(1, sectionOf(need+1, 0, lineDynamic(n)))
			if waits {
				d.Cancel(1)
				told.WriteString("waits;")
				continue
			}
			if e != api.OK {
				told.WriteString("none;")
				continue
			}
			told.WriteString(f[0].Name + "=" + f[0].Value + ";")
		}
	}
	// The capacity, by what still fits.
	for size := 32; size <= tableMost+1; size += 7 {
		if d.Feed(insertOf("", strings.Repeat("v", size-32))) != api.OK {
			told.WriteString("full")
			break
		}
		told.WriteString(".")
	}
	d.Out()
	return told.String()
}

// P16.6: an instruction that is not there whole waits, wherever it is cut, and does nothing till then.
func TestInsertsInPieces(t *testing.T) {
	untouched := dump(sampleStart(t))
	for _, b := range instructionSamples() {
		whole := sampleStart(t)
		wantFeed(t, whole, b, api.OK)
		said := whole.Out()
		want := dump(whole)
		for cut := range len(b) + 1 {
			d := sampleStart(t)
			wantFeed(t, d, b[:cut], api.OK)
			if cut < len(b) {
				wantOut(t, d, nil)
			}
			wantFeed(t, d, nil, api.OK)
			wantFeed(t, d, b[cut:], api.OK)
			wantOut(t, d, said)
			if got := dump(d); got != want {
				t.Errorf("%.40x cut at %d: %s, want %s", b, cut, got, want)
			}
		}
		d := sampleStart(t)
		for i := range b {
			wantFeed(t, d, b[i:i+1], api.OK)
		}
		wantOut(t, d, said)
		if got := dump(d); got != want {
			t.Errorf("%.40x byte by byte: %s, want %s", b, got, want)
		}
		if want == untouched {
			t.Errorf("%.40x does nothing", b)
		}
	}
}

// P16.6: numbers and texts that can't be read, as soon as that is known.
func TestInsertsThatCannotBeRead(t *testing.T) {
	bad := [][]byte{}
	for _, rest := range largeNumbers(t) {
		for _, first := range []byte{0xff, 0xbf, 0x3f, 0x1f, 0x5f, 0x7f} {
			bad = append(bad, append([]byte{first}, rest...))
		}
		for _, ahead := range []string{"c1 7f", "c1 ff", "80 7f", "4161 7f", "4161 ff"} {
			bad = append(bad, append(unhex(t, ahead), rest...))
		}
	}
	for _, digits := range []string{
		"c1 7f82ff00", "c1 ff82ff00", "80 7f82ff00", "4161 7f82ff00", "5f e2ff00", "7f e2ff00", // texts of 16385 bytes
		"c1 81ff", "80 82ffff", "61ff", "62ffff", "4161 81ff", "61ff 00", "c1 82fc00", // coded texts that are none
	} {
		bad = append(bad, unhex(t, digits))
	}
	for _, b := range bad {
		wantFeed(t, sampleStart(t), b, api.ErrSection)
		d := sampleStart(t)
		wantFeed(t, d, slices.Concat(insertOf("x", "y"), b, insertOf("z", "")), api.ErrSection)
		wantOut(t, d, []byte{1})
	}
	// Ahead of the byte that tells it there is no error.
	for _, digits := range []string{"c1 81", "80 82ff", "61", "62ff", "4161 81", "4161 7f81ff00", "c1 7f82ff", "7f e1ff00", "5f e2ff", "1f ffffffffffffffff", "bf 808080808080808080"} {
		wantFeed(t, sampleStart(t), unhex(t, digits), api.OK)
	}
}

// P16.6: a text of MaxData bytes is read, one more is not.
func TestInsertsOfHugeTexts(t *testing.T) {
	for _, n := range []int{api.MaxData, api.MaxData + 1} {
		value := slices.Concat([]byte{0xc1}, num(n, 7, 0), []byte(strings.Repeat("&", n)))
		name := slices.Concat(num(n, 5, 0x40), []byte(strings.Repeat("&", n)), []byte{0})
		for _, b := range [][]byte{value, name} {
			d := decoder(t, 1<<20, 0, 1<<20)
			wantFeed(t, d, capacityOf(1<<20), api.OK)
			if n > api.MaxData {
				wantFeed(t, d, b, api.ErrSection)
				continue
			}
			wantFeed(t, d, b, api.OK)
			wantOut(t, d, []byte{1})
		}
	}
}

// P16.6: which error is told where two things are wrong; what is not there whole waits, whatever else is wrong with it.
func TestInsertsWrongTwice(t *testing.T) {
	for _, c := range []struct {
		digits string
		e      api.Errno
	}{
		// An entry that there is none, and a value that can't be read.
		{"e8 81ff", api.ErrIndex}, {"82 81ff", api.ErrIndex}, {"e8 7f82ff00", api.ErrIndex}, {"e8 7f ffffffffffffffff7f", api.ErrIndex},
		// An entry that there is none, with a value that alone is too great.
		{"e8 7fe907" + strings.Repeat("26", 1128), api.ErrIndex}, {"82 7fe907" + strings.Repeat("26", 1128), api.ErrIndex},
		// A name that alone is too great, and a value that can't be read.
		{"5fca08" + strings.Repeat("26", 1129) + "81ff", api.ErrSection},
		{"61ff 81ff", api.ErrSection},
		// A capacity that can't be read would be too great.
		{"3f ffffffffffffffff7f", api.ErrSection},
		// The first of several instructions tells.
		{"e8 00 3fffff7f", api.ErrIndex}, {"3fffff7f e8 00", api.ErrCapacity}, {"61ff 3fffff7f", api.ErrSection},
	} {
		wantFeed(t, sampleStart(t), unhex(t, c.digits), c.e)
	}
	for _, c := range []struct {
		digits string
		e      api.Errno
	}{
		{"e8 0161", api.ErrIndex}, {"82 0161", api.ErrIndex}, {"e8 81ff", api.ErrIndex},
		{"4161 7fe907" + strings.Repeat("26", 1128), api.ErrCapacity}, {"c1 7fe907" + strings.Repeat("26", 1128), api.ErrCapacity},
		{"3fca07", api.ErrCapacity},
	} {
		b := unhex(t, c.digits)
		for cut := range len(b) {
			d := sampleStart(t)
			wantFeed(t, d, b[:cut], api.OK)
			wantFields(t, d, 0, unhex(t, "0000ca"), fds(fd(":method", "GET")))
			wantFeed(t, d, b[cut:], c.e)
		}
	}
}

// P16.6: behind an error Feed and Section answer it again, ahead of all else; Out tells of the inserts ahead of it.
func TestBehindAnErrorOfInserts(t *testing.T) {
	for _, c := range []struct {
		bad []byte
		e   api.Errno
	}{{capacityOf(1001), api.ErrCapacity}, {insertOf("", strings.Repeat("v", 969)), api.ErrCapacity}, {insertStatic(40, ""), api.ErrIndex}, {repeatOf(9), api.ErrIndex}, {unhex(t, "61ff"), api.ErrSection}} {
		for inserts := range 4 {
			d := sampleStart(t)
			wantFeed(t, d, slices.Concat(slices.Repeat(insertOf("a", "b"), inserts), c.bad, insertOf("c", "d")), c.e)
			if inserts > 0 {
				wantOut(t, d, insertsOf(inserts))
			} else {
				wantOut(t, d, nil)
			}
			for _, b := range [][]byte{nil, insertOf("c", "d"), capacityOf(1001), insertStatic(40, ""), {0x61, 0xff}, {0x41}} {
				wantFeed(t, d, b, c.e)
			}
			wantFault(t, d, 0, unhex(t, "0000ca"), c.e)
			wantFault(t, d, -1, nil, c.e)
			wantFault(t, d, math.MaxInt, unhex(t, "ff"), c.e)
			wantOut(t, d, nil)
			wantReady(t, d)
		}
	}
}

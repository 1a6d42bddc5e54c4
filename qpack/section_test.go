package qpack_test

import (
	"fmt"
	"math"
	"slices"
	"strings"
	"testing"

	"turnpike/api"
	"turnpike/qpack"
)

// P16.7: each kind of line, with both kinds of entries, and both with N 0 and N 1; Out tells of those with a need.
func TestSectionLines(t *testing.T) {
	for _, c := range []struct {
		digits string
		want   []api.Field
	}{
		{"0000", nil},
		{"0000 ca", fds(fd(":method", "GET"))},
		{"0000 c0 e7 ca", fds(fd(":authority", ""), fd("via", ""), fd(":method", "GET"))},
		{"0300", nil},
		{"0300 ca", fds(fd(":method", "GET"))},
		{"0300 80", fds(fd("two", "2"))},
		{"0300 81", fds(fd("one", "1"))},
		{"0381 10", fds(fd("one", "1"))}, // the base is 0
		{"0381 11", fds(fd("two", "2"))},
		{"0380 80 10", fds(fd("one", "1"), fd("two", "2"))}, // the base is 1
		{"0305 85 86", fds(fd("two", "2"), fd("one", "1"))}, // the base is 7
		{"0000 51 0178", fds(fd(":path", "x"))},
		{"0000 71 0178", fds(fd(":path", "x"))},
		{"0000 5f18 00", fds(fd("via", ""))},
		{"0300 40 0178", fds(fd("two", "x"))},
		{"0300 61 0178", fds(fd("one", "x"))},
		{"0381 00 0178", fds(fd("one", "x"))},
		{"0381 01 00", fds(fd("two", ""))},
		{"0381 09 8218c7", fds(fd("two", "aaa"))},
		{"0000 2161 0162", fds(fd("a", "b"))},
		{"0000 3161 0162", fds(fd("a", "b"))},
		{"0000 2a18c7 8218c7", fds(fd("aaa", "aaa"))},
		{"0000 3a18c7 00", fds(fd("aaa", ""))},
		{"0000 20 00", fds(fd("", ""))},
		{"0000 2700 26262626262626 00", fds(fd("&&&&&&&", ""))},
		{"0300 80 ca 2161 0162 81 51 00", fds(fd("two", "2"), fd(":method", "GET"), fd("a", "b"), fd("one", "1"), fd(":path", ""))},
		{"0200 80", fds(fd("one", "1"))},                                       // a need below the count
		{"037f 80ffffffffffffff3f bf c0ffffffffffffff3f", fds(fd("two", "2"))}, // a delta and a number of MaxNum
	} {
		d := sampleStart(t)
		b := unhex(t, c.digits)
		wantFields(t, d, 9, b, c.want)
		if b[0] > 0 {
			wantOut(t, d, readOf(9))
		} else {
			wantOut(t, d, nil)
		}
		wantReady(t, d)
	}
}

// wantBad asks a fresh decoder of two entries for ErrSection and silence.
func wantBad(t *testing.T, b []byte) {
	t.Helper()
	d := sampleStart(t)
	wantFault(t, d, 9, b, api.ErrSection)
	wantOut(t, d, nil)
	wantReady(t, d)
	// It is no error of the decoder's: the next section is read.
	wantFields(t, d, 9, unhex(t, "0300 81"), fds(fd("one", "1")))
}

// P16.7: what can't be read, and entries that are not there.
func TestSectionsThatCannotBeRead(t *testing.T) {
	for _, digits := range []string{
		"", "ff", "00", "03", "0000 ff", "007f", "00ff", "0000 40", "0000 51", "0000 5f", "0000 21", "0000 2161", "0000 20", "0000 51 02 61", "0000 1f", "0300 00",
		"0000 e8", "0000 fe", "0000 ff00", "0000 5f19 00", "0000 5f30 00", "0000 ff808080808000", // static entries that there are none
		"0000 80", "0000 10", "0000 00 00", "0000 40 00", "0007 86", "0300 82", "0300 42 00", "0300 10", "0300 00 00", "0381 12", "0381 02 00", "0200 81", "0381 80", "0381 40 00",
		"0280 10 11", "0280 11", "0306 80", // a number that is not below the need, though the entry is there
		"0000 51 81ff", "0000 2161 81ff", "0000 29ff 00", "0000 ca e8", "0000 51 7f82ff00",
		"0000 ff ffffffffffffffff7f", "00 7f ffffffffffffffff7f", "ff ffffffffffffffff7f 00", "ff 80808080808080808080 00",
		"0381 1f f1ffffffffffffff3f", "0381 1f f0ffffffffffffff3f", "0381 07 f8ffffffffffffff3f 00", // past numbers up to MaxNum
		"037f 80ffffffffffffff3f 10", "037f 80ffffffffffffff3f 1f f0ffffffffffffff3f", "037f 80ffffffffffffff3f 07 f8ffffffffffffff3f 00", // with such a base the sum would wrap round
		"037f 80ffffffffffffff3f 80", "037f 80ffffffffffffff3f bf beffffffffffffff3f",
	} {
		wantBad(t, unhex(t, digits))
	}
}

// P16.7: a number or a text cut off anywhere can't be read; cut between two lines there are fewer.
func TestSectionsCutAnywhere(t *testing.T) {
	pieces := [][]byte{{3}, {0}, lineStatic(39), lineDynamic(1), lineStaticName(38, "x"), lineDynamicName(0, "aaaaaaa"), linePlain("aaaaaaaaaaaaaaaaaaaaaaaaaaaaaaa", strings.Repeat("&", 130)), lineStaticName(1, ""), lineStatic(0)}
	all := fds(fd("via", ""), fd("one", "1"), fd("x-forwarded-for", "x"), fd("two", "aaaaaaa"), fd("aaaaaaaaaaaaaaaaaaaaaaaaaaaaaaa", strings.Repeat("&", 130)), fd(":path", ""), fd(":authority", ""))
	b := slices.Concat(pieces...)
	ends := map[int]int{} // where so many lines are whole
	at := 0
	for i, p := range pieces {
		at += len(p)
		if i > 0 {
			ends[at] = i - 1
		}
	}
	for cut := range len(b) + 1 {
		if lines, whole := ends[cut]; whole {
			wantFields(t, sampleStart(t), 0, b[:cut], all[:lines])
		} else {
			wantBad(t, b[:cut])
		}
	}
}

// six: a decoder that had eight inserts, n 0 to n 7, of which the last six are there.
func six(t *testing.T) *qpack.Decoder {
	t.Helper()
	d := filled(t, 6*34)
	for n := range 8 {
		wantFeed(t, d, insertOf("n", fmt.Sprint(n)), api.OK)
	}
	d.Out()
	return d
}

// P16.7: every line of every small number with every need and base that may be: the entry must be there and its number below the need.
func TestSectionEntries(t *testing.T) {
	d := six(t)
	for need := 0; need <= 8; need++ {
		coded := need + 1
		if need == 0 {
			coded = 0
		}
		for delta := -need - 3; delta <= 6; delta++ {
			base := need + delta
			for n := range 12 {
				for _, c := range []struct {
					line   []byte
					number int
					value  string
				}{{lineDynamic(n), base - 1 - n, fmt.Sprint(base - 1 - n)}, {linePast(n), base + n, fmt.Sprint(base + n)}, {lineDynamicName(n, "v"), base - 1 - n, "v"}, {linePastName(n, "v"), base + n, "v"}} {
					b := sectionOf(coded, delta, c.line)
					switch {
					case base >= 0 && c.number >= 2 && c.number < need:
						wantFields(t, d, 5, b, fds(fd("n", c.value)))
						wantOut(t, d, readOf(5))
					default:
						wantFault(t, d, 5, b, api.ErrSection)
						wantOut(t, d, nil)
					}
				}
			}
		}
	}
}

// P16.7: a base below 0, though no line leans on it.
func TestSectionBaseBelowNothing(t *testing.T) {
	d := six(t)
	for need := 0; need <= 8; need++ {
		coded := need + 1
		if need == 0 {
			coded = 0
		}
		if need > 0 {
			wantFields(t, d, 1, sectionOf(coded, -need, lineStatic(1)), fds(fd(":path", "/")))
		}
		for _, more := range []int{1, 2, 100, 1 << 40, api.MaxNum - 10} {
			wantFault(t, d, 1, sectionOf(coded, -need-more, lineStatic(1)), api.ErrSection)
			wantFault(t, d, 1, sectionOf(coded, -need-more), api.ErrSection)
		}
		for _, delta := range []int{0, 1, 126, 127, 1 << 40, api.MaxNum} {
			wantFields(t, d, 1, sectionOf(coded, delta, lineStatic(1)), fds(fd(":path", "/")))
		}
	}
	wantFault(t, d, 1, sectionOf(0, -api.MaxNum-1), api.ErrSection)
}

// needOf: the need that a coded one tells, gone through one by one; -1, if there is none.
func needOf(most, count, coded int) int {
	m := most / 32
	if coded == 0 {
		return 0
	}
	found := -1
	for need := 1; need <= count+m; need++ {
		if coded <= 2*m && need%(2*m)+1 == coded {
			found = need
		}
	}
	return found
}

// P16.7: every coded need at every small count: what is read now, what waits and till when, and what can't be.
func TestSectionNeeds(t *testing.T) {
	for _, most := range []int{0, 31, 32, 63, 64, 95, 96, 130, 200} {
		d := decoder(t, most, 1, 1000)
		wantFeed(t, d, capacityOf(most), api.OK)
		for count := range 40 {
			for coded := 0; coded <= 2*(most/32)+3; coded++ {
				wantNeed(t, d, most, count, coded)
			}
			for _, coded := range []int{254, 255, 256, 1 << 32, 1<<32 + 1, api.MaxNum} {
				wantFault(t, d, 0, sectionOf(coded, 0, lineStatic(1)), api.ErrSection)
			}
			if most < 32 {
				break // no entry has room
			}
			wantFeed(t, d, insertOf("", ""), api.OK)
		}
	}
}

// wantNeed asks a decoder what it makes of a coded need; what waits is cancelled.
func wantNeed(t *testing.T, d *qpack.Decoder, most, count, coded int) {
	t.Helper()
	b := sectionOf(coded, 0, lineStatic(1))
	switch need := needOf(most, count, coded); {
	case need < 0:
		wantFault(t, d, 0, b, api.ErrSection)
	case need <= count:
		wantFields(t, d, 0, b, fds(fd(":path", "/")))
	default:
		wantWaits(t, d, 0, b)
		d.Cancel(0)
	}
}

// P16.7: the need is the greatest that may be: the entries tell which it is, and the time at which one that waits is read.
func TestSectionNeedsTellEntries(t *testing.T) {
	const most = 70 // two entries, and needs wrap at 4
	for count := range 30 {
		for coded := 1; coded <= 4; coded++ {
			need := needOf(most, count, coded)
			if need < 0 {
				continue
			}
			d := decoder(t, most, 1, 1000)
			wantFeed(t, d, capacityOf(most), api.OK)
			for n := range count {
				wantFeed(t, d, insertOf("", fmt.Sprint(n)), api.OK)
			}
			b := sectionOf(coded, 0, lineDynamic(0))
			if need <= count {
				if need < count-1 {
					wantFault(t, d, 0, b, api.ErrSection) // it has gone
				} else {
					wantFields(t, d, 0, b, fds(fd("", fmt.Sprint(need-1))))
				}
				continue
			}
			wantWaits(t, d, 0, b)
			for n := count; n < need; n++ {
				wantReady(t, d)
				wantFeed(t, d, insertOf("", fmt.Sprint(n)), api.OK)
			}
			wantReady(t, d, qpack.Done{Stream: 0, Fields: fds(fd("", fmt.Sprint(need-1)))})
		}
	}
}

// P16.7: the bounds of streams, told ahead of a section that is wrong.
func TestSectionStreams(t *testing.T) {
	d := sampleStart(t)
	for _, stream := range []int{-1, -2, math.MinInt, api.MaxNum + 1, math.MaxInt} {
		for _, digits := range []string{"0300 80", "", "ff", "0400 80", "3f00", "0000 e8"} {
			wantFault(t, d, stream, unhex(t, digits), api.ErrStream)
		}
	}
	wantOut(t, d, nil)
	for _, stream := range []int{0, 1, 126, 127, 128, 1 << 40, api.MaxNum} {
		wantFields(t, d, stream, unhex(t, "0300 80"), fds(fd("two", "2")))
		wantFields(t, d, stream, unhex(t, "0000 ca"), fds(fd(":method", "GET")))
		wantOut(t, d, readOf(stream))
	}
}

// P16.7: a limit that is just reached, and one less.
func TestSectionLimit(t *testing.T) {
	for _, c := range []struct {
		digits string
		size   int
	}{
		{"0000", 0}, {"0000 20 00", 32}, {"0000 c0", 42}, {"0000 ca", 42}, {"0300 80", 36}, {"0300 81 80", 72}, {"0381 10", 36},
		{"0000 51 0178", 38}, {"0300 40 0178", 36}, {"0381 00 0178", 36}, {"0000 2161 0162", 34},
		{"0000 2a18c7 8218c7", 38}, // not as it is coded
		{"0300 ca 80 2161 0162 e7", 42 + 36 + 34 + 35},
	} {
		b := unhex(t, c.digits)
		for limit := max(c.size-2, 0); limit <= c.size+1; limit++ {
			d := decoder(t, tableMost, 0, limit)
			wantFeed(t, d, slices.Concat(capacityOf(200), insertOf("one", "1"), insertOf("two", "2")), api.OK)
			d.Out()
			if limit < c.size {
				wantFault(t, d, 0, b, api.ErrLarge)
				wantOut(t, d, nil)
				continue
			}
			f, waits, e := d.Section(0, b)
			size := 0
			for _, one := range f {
				size += 32 + len(one.Name) + len(one.Value)
			}
			if size != c.size || waits || e != api.OK {
				t.Errorf("Section(0, %s) with the limit %d: %v, %t, %d", c.digits, limit, f, waits, e)
			}
		}
	}
	d := decoder(t, 0, 0, 1<<20)
	text := strings.Repeat("&", 16384-32)
	many := slices.Repeat(linePlain("", text), 64)
	if f, _, e := d.Section(0, sectionOf(0, 0, many)); len(f) != 64 || e != api.OK {
		t.Errorf("2^20: %d, %d", len(f), e)
	}
	wantFault(t, d, 0, sectionOf(0, 0, many, lineStatic(0)), api.ErrLarge)
}

// P16.7: what is too much is told ahead of what is wrong behind it, not ahead of what is wrong before it or in it.
func TestSectionLimitAndWrong(t *testing.T) {
	d := decoder(t, 0, 0, 80)
	for _, c := range []struct {
		digits string
		e      api.Errno
	}{
		{"0000 ca e7 e8", api.ErrSection}, // 77, and no such entry
		{"0000 ca c1 e8", api.ErrSection}, // 80: just reached
		{"0000 ca ca e8", api.ErrLarge},
		{"0000 ca ca ff", api.ErrLarge},
		{"0000 ca ca 51 7f", api.ErrLarge},
		{"0000 ca ca 51 81ff", api.ErrLarge},
		{"0000 e8 ca ca", api.ErrSection},
		{"0000 ca e8 ca", api.ErrSection},
		{"0000 ca 51 81ff", api.ErrSection},
		{"0000 2f 7a" + strings.Repeat("26", 129), api.ErrSection}, // a name that is too much, whose value is not there
		{"0080 ca ca", api.ErrSection},                             // the base
		{"0200 ca ca", api.ErrSection},                             // the need
	} {
		wantFault(t, d, 0, unhex(t, c.digits), c.e)
	}
}

// P16.7: which error is told where two things are wrong: the need ahead of how many wait, that ahead of what stands behind the need.
func TestSectionWrongTwice(t *testing.T) {
	for _, rest := range []string{"", "00", "80", "83", "00 80", "00 e8", "7f", "00 ff"} {
		// Two inserts have come: the need 3 waits, or may not.
		none := decoder(t, tableMost, 0, 1<<20)
		wantFeed(t, none, slices.Concat(capacityOf(200), insertOf("one", "1"), insertOf("two", "2")), api.OK)
		none.Out()
		wantFault(t, none, 0, unhex(t, "04"+rest), api.ErrBlocked)
		wantFault(t, none, 0, unhex(t, "3e"+rest), api.ErrSection) // the need 61 is above 2 + 31
		wantFault(t, none, 0, unhex(t, "3f"+rest), api.ErrSection) // above 2 * 31
		wantFault(t, none, -1, unhex(t, "04"+rest), api.ErrStream)
		wantOut(t, none, nil)
		d := sampleStart(t)
		wantWaits(t, d, 4, unhex(t, "04"+rest))
		wantFault(t, d, 4, unhex(t, "04"+rest), api.ErrStream)
		wantFault(t, d, 4, unhex(t, "3f"+rest), api.ErrStream)
		wantFault(t, d, 8, unhex(t, "3f"+rest), api.ErrSection)
	}
}

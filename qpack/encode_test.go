package qpack_test

import (
	"fmt"
	"math"
	"slices"
	"strings"
	"testing"

	"turnpike/api"
	"turnpike/qpack"
)

// P16.2, P16.3, P16.4: the chapter's examples.
func TestEncoderExamples(t *testing.T) {
	x := encoder(t, 0, 0)
	wantEncode(t, x, 0, fds(fd(":method", "GET")), unhex(t, "0000ca"))
	wantEncode(t, x, 0, fds(fd("a", "b")), unhex(t, "0000 2161 0162"))
	wantOut(t, x, nil)
	x, e := qpack.NewEncoder(200, 200)
	if e != api.OK {
		t.Fatal(e)
	}
	wantOut(t, x, unhex(t, "3fa901"))
	wantEncode(t, x, 0, fds(fd("a", "b")), unhex(t, "0000 2161 0162"))
	wantOut(t, x, unhex(t, "4161 0162"))
	wantFeed(t, x, []byte{1}, api.OK)
	wantEncode(t, x, 4, fds(fd("a", "b")), unhex(t, "020080"))
	wantOut(t, x, nil)
}

// P16.2: the bounds of both numbers.
func TestNewEncoderBounds(t *testing.T) {
	const top = 1 << 20
	for _, c := range []struct {
		most, use int
		e         api.Errno
	}{
		{0, 0, api.OK}, {1, 0, api.OK}, {1, 1, api.OK}, {31, 31, api.OK}, {32, 32, api.OK}, {200, 199, api.OK}, {200, 200, api.OK},
		{top - 1, top - 1, api.OK}, {top, 0, api.OK}, {top, top - 1, api.OK}, {top, top, api.OK},
		{-1, 0, api.ErrRange}, {-1, -1, api.ErrRange}, {-1, -2, api.ErrRange}, {math.MinInt, 0, api.ErrRange}, {math.MinInt, math.MinInt, api.ErrRange},
		{top + 1, 0, api.ErrRange}, {top + 1, top, api.ErrRange}, {top + 1, top + 1, api.ErrRange}, {math.MaxInt, 1, api.ErrRange}, {1 << 32, 0, api.ErrRange},
		{0, -1, api.ErrRange}, {0, 1, api.ErrRange}, {200, 201, api.ErrRange}, {200, -1, api.ErrRange}, {200, math.MinInt, api.ErrRange}, {200, math.MaxInt, api.ErrRange},
		{top, -1, api.ErrRange}, {top, top + 1, api.ErrRange}, {200, 1 << 32, api.ErrRange},
	} {
		if x, e := qpack.NewEncoder(c.most, c.use); e != c.e || (x == nil) != (e != api.OK) {
			t.Errorf("NewEncoder(%d, %d): %v, %d; want %d", c.most, c.use, x, e, c.e)
		}
	}
}

// P16.2: what Out says of the capacity at first: the one that is used, not the greatest.
func TestFirstOut(t *testing.T) {
	for _, c := range []struct {
		use  int
		want string
	}{{0, ""}, {1, "21"}, {30, "3e"}, {31, "3f00"}, {32, "3f01"}, {158, "3f7f"}, {159, "3f8001"}, {200, "3fa901"}, {1 << 20, "3fe1ff3f"}} {
		for _, most := range []int{c.use, (c.use + 1<<20) / 2, 1 << 20} {
			x, e := qpack.NewEncoder(most, c.use)
			if e != api.OK {
				t.Fatal(e)
			}
			wantOut(t, x, unhex(t, c.want))
		}
	}
	x, _ := qpack.NewEncoder(200, 200)
	wantEncode(t, x, 0, fds(fd("a", "b")), unhex(t, "0000 2161 0162"))
	wantOut(t, x, unhex(t, "3fa901 4161 0162"))
}

// P16.3: the bounds of streams, told ahead of fields that are too much.
func TestEncodeStreams(t *testing.T) {
	huge := fds(fd(strings.Repeat("a", api.MaxData), ""))
	x := encoder(t, 200, 200)
	for _, stream := range []int{-1, -2, math.MinInt, -api.MaxNum, api.MaxNum + 1, math.MaxInt} {
		wantRefused(t, x, stream, fds(fd("a", "b")), api.ErrStream)
		wantRefused(t, x, stream, nil, api.ErrStream)
		wantRefused(t, x, stream, huge, api.ErrStream)
	}
	for _, stream := range []int{0, 1, 4, 1 << 32, api.MaxNum - 1, api.MaxNum} {
		wantEncode(t, x, stream, fds(fd(":path", "/")), unhex(t, "0000c1"))
		wantRefused(t, x, stream, huge, api.ErrHuge)
	}
	// What was refused has not been inserted.
	wantEncode(t, x, 0, fds(fd("a", "b")), unhex(t, "0000 2161 0162"))
	wantOut(t, x, unhex(t, "4161 0162"))
}

// P16.3: fields whose sizes are together MaxData, and one more.
func TestEncodeSizes(t *testing.T) {
	for _, c := range []struct {
		name   string
		fields []api.Field
	}{
		{"one name", fds(fd(strings.Repeat("x", api.MaxData-32), ""))},
		{"one value", fds(fd("", strings.Repeat("x", api.MaxData-32)))},
		{"a name and a value", fds(fd(strings.Repeat("a", 10000), strings.Repeat("b", api.MaxData-32-10000)))},
		{"two fields", fds(fd("a", strings.Repeat("b", 8000)), fd(strings.Repeat("c", api.MaxData-64-8001), ""))},
		{"empty fields", make([]api.Field, api.MaxData/32)},
		{"static fields", append(slices.Repeat(fds(fd(":path", "/")), 430), fd("x", strings.Repeat("y", api.MaxData-430*38-33)))},
	} {
		x, d := encoder(t, 1<<20, 1<<20), decoder(t, 1<<20, 0, api.MaxData)
		more := slices.Clone(c.fields)
		more[len(more)-1].Value += "z"
		wantRefused(t, x, 0, more, api.ErrHuge)
		wantRefused(t, x, 0, append(slices.Clone(c.fields), api.Field{}), api.ErrHuge)
		b, e := x.Encode(0, c.fields)
		if e != api.OK {
			t.Fatalf("%s: %d", c.name, e)
		}
		wantFields(t, d, 0, b, c.fields)
	}
	// The first field is refused with the last one: it is not inserted.
	x := encoder(t, 200, 200)
	wantRefused(t, x, 0, fds(fd("a", "b"), fd("c", strings.Repeat("d", api.MaxData-34-33+1))), api.ErrHuge)
	wantEncode(t, x, 0, fds(fd("a", "b")), unhex(t, "0000 2161 0162"))
	wantOut(t, x, unhex(t, "4161 0162"))
}

// P16.3: no fields at all.
func TestEncodeNoFields(t *testing.T) {
	x := encoder(t, 200, 200)
	wantEncode(t, x, 0, nil, []byte{0, 0})
	wantEncode(t, x, 0, []api.Field{}, []byte{0, 0})
	wantOut(t, x, nil)
}

// P16.3: a static entry comes first, and is not inserted.
func TestEncodeStaticFirst(t *testing.T) {
	x := encoder(t, 1<<20, 1<<20)
	for n, f := range staticTable() {
		wantEncode(t, x, n, fds(f), []byte{0, 0, 0xc0 + byte(n)})
	}
	wantEncode(t, x, 0, fds(fd(":status", "504"), fd("via", ""), fd(":authority", "")), unhex(t, "0000 e3 e7 c0"))
	wantOut(t, x, nil)
}

// P16.3: where the name alone is static, the first entry with it tells it, in the instruction and in the line.
func TestEncodeStaticNames(t *testing.T) {
	x := encoder(t, 1000, 1000)
	wantEncode(t, x, 0, fds(fd(":path", "/x")), unhex(t, "0000 51 022f78"))
	wantOut(t, x, unhex(t, "c1 022f78"))
	wantEncode(t, x, 0, fds(fd(":status", "201")), unhex(t, "0000 5f02 821003"))
	wantOut(t, x, unhex(t, "d1 821003"))
	wantEncode(t, x, 0, fds(fd(":method", "X")), unhex(t, "0000 58 0158"))
	wantOut(t, x, unhex(t, "c8 0158"))
	wantEncode(t, x, 0, fds(fd("content-type", "")), unhex(t, "0000 5f0a 00"))
	wantOut(t, x, unhex(t, "d9 00"))
	first := map[string]int{}
	for n, f := range staticTable() {
		if _, there := first[f.Name]; !there {
			first[f.Name] = n
		}
		n = first[f.Name]
		value := fmt.Sprint("value", len(f.Value), f.Value)
		y := encoder(t, 1000, 1000)
		wantEncode(t, y, 0, fds(fd(f.Name, value)), sectionOf(0, 0, lineStaticName(n, value)))
		wantOut(t, y, insertStatic(n, value))
	}
}

// P16.3: names and values that no entry has, coded where that is shorter; the same letters in capitals are another name.
func TestEncodeTexts(t *testing.T) {
	for _, c := range []struct {
		f            api.Field
		line, insert string
	}{
		{fd("a", "b"), "2161 0162", "4161 0162"},
		{fd("", ""), "20 00", "40 00"},
		{fd("", "x"), "20 0178", "40 0178"},
		{fd("x", ""), "2178 00", "4178 00"},
		{fd("aaa", "aaa"), "2a18c7 8218c7", "6218c7 8218c7"},
		{fd("&&&&&&&", "\x00\xff"), "2700 26262626262626 0200ff", "47 26262626262626 0200ff"},
		{fd("Via", ""), "23566961 00", "43566961 00"},
		{fd(":Path", "/"), "2c b9ac699f 012f", "64 b9ac699f 012f"},
	} {
		x := encoder(t, 1000, 1000)
		wantEncode(t, x, 0, fds(c.f), unhex(t, "0000"+c.line))
		wantOut(t, x, unhex(t, c.insert))
	}
}

// P16.3: an entry that is not known yet is not named, and not inserted once more; one that is known is named.
func TestEncodeKnownAndUnknown(t *testing.T) {
	x := encoder(t, 200, 200)
	ab := fds(fd("a", "b"))
	plain := unhex(t, "2161 0162")
	wantEncode(t, x, 0, append(ab, ab...), sectionOf(0, 0, plain, plain))
	wantOut(t, x, unhex(t, "4161 0162"))
	wantEncode(t, x, 4, ab, sectionOf(0, 0, plain))
	wantOut(t, x, nil)
	wantFeed(t, x, insertsOf(1), api.OK)
	wantEncode(t, x, 0, append(ab, ab...), sectionOf(2, 0, lineDynamic(0), lineDynamic(0)))
	wantOut(t, x, nil)
	// The same name with another value is another entry.
	wantEncode(t, x, 0, fds(fd("a", "c")), unhex(t, "0001 2161 0163"))
	wantOut(t, x, unhex(t, "4161 0163"))
	wantEncode(t, x, 0, fds(fd("a", "c"), fd("a", "b")), unhex(t, "0200 2161 0163 80"))
	wantFeed(t, x, insertsOf(1), api.OK)
	wantEncode(t, x, 0, fds(fd("a", "c"), fd("a", "b")), unhex(t, "0300 80 81"))
	// Nor does a name and a value that are together the same make the same entry.
	wantEncode(t, x, 0, fds(fd("ab", "")), unhex(t, "0002 226162 00"))
	wantOut(t, x, unhex(t, "426162 00"))
}

// P16.3: an entry as great as the half of what is used, and one more.
func TestEncodeHalf(t *testing.T) {
	for _, c := range []struct {
		use    int
		f      api.Field
		insert bool
	}{
		{64, fd("", ""), true}, {63, fd("", ""), false}, {1, fd("", ""), false},
		{68, fd("a", "b"), true}, {67, fd("a", "b"), false}, {69, fd("a", "bc"), false}, {70, fd("a", "bc"), true},
		{69, fd("", "abc"), false}, {69, fd("abc", ""), false}, {70, fd("abc", ""), true},
		{200, fd(":path", strings.Repeat("x", 63)), true}, {200, fd(":path", strings.Repeat("x", 64)), false},
		{201, fd(":path", strings.Repeat("x", 64)), false}, {202, fd(":path", strings.Repeat("x", 64)), true},
	} {
		x := encoder(t, 1000, c.use)
		n, static := 1, c.f.Name == ":path"
		line, insert := linePlain(c.f.Name, c.f.Value), insertOf(c.f.Name, c.f.Value)
		if static {
			line, insert = lineStaticName(n, c.f.Value), insertStatic(n, c.f.Value)
		}
		if !c.insert {
			insert = nil
		}
		wantEncode(t, x, 0, fds(c.f), sectionOf(0, 0, line))
		wantOut(t, x, insert)
	}
}

// full: an encoder with a table of 68, filled with a b and c d, of which so many are known.
func full(t *testing.T, known int) *qpack.Encoder {
	t.Helper()
	x := encoder(t, 68, 68)
	wantEncode(t, x, 0, fds(fd("a", "b"), fd("c", "d")), unhex(t, "0000 2161 0162 2163 0164"))
	wantOut(t, x, unhex(t, "4161 0162 4163 0164"))
	if known > 0 {
		wantFeed(t, x, insertsOf(known), api.OK)
	}
	return x
}

// wantInserted asks whether a field of one letter and one letter is inserted now; its line tells it in full.
func wantInserted(t *testing.T, x *qpack.Encoder, known int, f api.Field, inserted bool) {
	t.Helper()
	wantEncode(t, x, 99, fds(f), sectionOf(0, known, linePlain(f.Name, f.Value)))
	if inserted {
		wantOut(t, x, insertOf(f.Name, f.Value))
	} else {
		wantOut(t, x, nil)
	}
}

// P16.3: the oldest entry goes only if it is known.
func TestEncodeRoomOfKnownEntries(t *testing.T) {
	x := full(t, 0)
	wantInserted(t, x, 0, fd("e", "f"), false)
	wantFeed(t, x, insertsOf(1), api.OK)
	wantInserted(t, x, 1, fd("e", "f"), true)
	wantInserted(t, x, 1, fd("g", "h"), false)
	wantInserted(t, x, 1, fd("a", "b"), false) // it has gone, and its room is taken
	wantFeed(t, x, insertsOf(1), api.OK)
	wantInserted(t, x, 2, fd("a", "b"), true)
	wantFeed(t, x, insertsOf(2), api.OK)
	// The one that came again is named by its new number: of 2 and 3 it is 3.
	wantEncode(t, x, 0, fds(fd("a", "b"), fd("e", "f")), unhex(t, "0100 80 81"))
}

// P16.3: an entry does not go that an open section names, nor one behind it; it goes when the section is read or cancelled.
func TestEncodeRoomOfOpenSections(t *testing.T) {
	for _, end := range [][]byte{readOf(4), cancelledOf(4)} {
		x := full(t, 2)
		wantEncode(t, x, 4, fds(fd("a", "b")), unhex(t, "0201 81"))
		wantInserted(t, x, 2, fd("e", "f"), false)
		wantFeed(t, x, end, api.OK)
		wantInserted(t, x, 2, fd("e", "f"), true)
	}
	// It names the younger one: the older one may go.
	x := full(t, 2)
	wantEncode(t, x, 4, fds(fd("c", "d")), unhex(t, "0300 80"))
	wantInserted(t, x, 2, fd("e", "f"), true)
	wantInserted(t, x, 2, fd("g", "h"), false)
	wantFeed(t, x, readOf(4), api.OK)
	wantInserted(t, x, 2, fd("g", "h"), true)
	// Of two that it names the older one counts, in whichever order.
	for _, fields := range [][]api.Field{fds(fd("a", "b"), fd("c", "d")), fds(fd("c", "d"), fd("a", "b"))} {
		x := full(t, 2)
		x.Encode(4, fields)
		wantInserted(t, x, 2, fd("e", "f"), false)
	}
}

// P16.3: of the open sections of several streams, and of one, each counts.
func TestEncodeRoomOfManyOpenSections(t *testing.T) {
	a, c := fds(fd("a", "b")), fds(fd("c", "d"))
	x := full(t, 2)
	for stream := range 20 {
		x.Encode(stream, c)
	}
	x.Encode(7, a)
	for stream := range 20 {
		x.Encode(stream, c)
	}
	wantInserted(t, x, 2, fd("e", "f"), false)
	wantFeed(t, x, readOf(7), api.OK) // its first one, that names the younger entry
	wantInserted(t, x, 2, fd("e", "f"), false)
	wantFeed(t, x, readOf(7), api.OK)
	wantInserted(t, x, 2, fd("e", "f"), true)
	wantFeed(t, x, readOf(7), api.OK)
	wantFeed(t, x, readOf(7), api.ErrStream)
}

// P16.3: an entry does not go that this section names, ahead of the field that needs room.
func TestEncodeRoomOfThisSection(t *testing.T) {
	x := full(t, 2)
	wantEncode(t, x, 0, fds(fd("a", "b"), fd("e", "f")), unhex(t, "0201 81 2165 0166"))
	wantOut(t, x, nil)
	x = full(t, 2)
	wantEncode(t, x, 0, fds(fd("c", "d"), fd("e", "f"), fd("g", "h")), unhex(t, "0300 80 2165 0166 2167 0168"))
	wantOut(t, x, unhex(t, "4165 0166"))
	// The field behind finds the entry gone, and takes the room of the next.
	x = full(t, 2)
	wantEncode(t, x, 0, fds(fd("e", "f"), fd("a", "b")), unhex(t, "0002 2165 0166 2161 0162"))
	wantOut(t, x, unhex(t, "4165 0166 4161 0162"))
	wantEncode(t, x, 0, fds(fd("c", "d")), unhex(t, "0002 2163 0164"))
	wantOut(t, x, nil)
}

// P16.3: as many of the oldest go as must, and none where they would not do.
func TestEncodeRoomOfSeveral(t *testing.T) {
	four := fds(fd("a", "b"), fd("c", "d"), fd("e", "f"), fd("g", "h"))
	great := fd("i", strings.Repeat("&", 37)) // 70, of which 4 are free: two must go
	line := linePlain(great.Name, great.Value)
	for known := 1; known <= 4; known++ {
		x := encoder(t, 140, 140)
		x.Encode(0, four)
		x.Out()
		wantFeed(t, x, insertsOf(known), api.OK)
		wantEncode(t, x, 0, fds(great), sectionOf(0, known, line))
		if known < 2 {
			wantOut(t, x, nil)
			wantEncode(t, x, 0, four[:1], sectionOf(2, 0, lineDynamic(0)))
			continue
		}
		wantOut(t, x, insertOf(great.Name, great.Value))
		for i, f := range four {
			want := sectionOf(0, known, linePlain(f.Name, f.Value))
			if i >= 2 && i < known {
				want = sectionOf((i+1)%8+1, known-i-1, lineDynamic(known-1-i))
			}
			y := encoder(t, 140, 140) // as x was ahead of this question, since asking may insert
			y.Encode(0, four)
			wantFeed(t, y, insertsOf(known), api.OK)
			y.Encode(0, fds(great))
			wantEncode(t, y, 0, fds(f), want)
		}
	}
}

// P16.3: an entry that just fits, and one that is one too much for what is free.
func TestEncodeRoomToTheByte(t *testing.T) {
	x := encoder(t, 1000, 102) // 34 and 34 and 34
	for _, f := range fds(fd("a", "b"), fd("c", "d"), fd("e", "f")) {
		wantInserted(t, x, 0, f, true)
	}
	wantInserted(t, x, 0, fd("", ""), false)
	x = encoder(t, 1000, 102)
	wantInserted(t, x, 0, fd("a", "b"), true)
	wantInserted(t, x, 0, fd("c", "d"), true)
	wantInserted(t, x, 0, fd("e", "ff"), false)
	wantInserted(t, x, 0, fd("e", "f"), true)
	// One that goes makes as much room as it had.
	wantFeed(t, x, insertsOf(1), api.OK)
	wantInserted(t, x, 1, fd("g", "hh"), false)
	wantInserted(t, x, 1, fd("g", "h"), true)
}

// P16.3: the base is the known count, the need is told by the greatest number that is named.
func TestEncodeNeedAndBase(t *testing.T) {
	x := encoder(t, 1<<20, 1<<20)
	var all []api.Field
	for n := range 300 {
		all = append(all, fd("n", fmt.Sprint(n)))
	}
	for i := 0; i < 300; i += 100 {
		x.Encode(0, all[i:i+100])
	}
	wantFeed(t, x, insertsOf(200), api.OK)
	for _, c := range []struct {
		numbers []int
		need    int
	}{{[]int{0}, 1}, {[]int{199}, 200}, {[]int{3, 150, 7}, 151}, {[]int{72, 73}, 74}, {[]int{136, 137}, 138}, {[]int{200}, 0}, {[]int{299, 0, 200}, 1}, {nil, 0}} {
		var fields []api.Field
		var lines [][]byte
		for _, n := range c.numbers {
			fields = append(fields, all[n])
			if n < 200 {
				lines = append(lines, lineDynamic(199-n))
			} else {
				lines = append(lines, linePlain("n", fmt.Sprint(n)))
			}
		}
		coded := 0
		if c.need > 0 {
			coded = c.need + 1
		}
		wantEncode(t, x, 0, fields, sectionOf(coded, 200-c.need, lines...))
	}
	wantFeed(t, x, insertsOf(100), api.OK)
	wantEncode(t, x, 0, all[:1], unhex(t, "02 7fac01 bfec01")) // need 1, delta 299 = 127 + 172, and 299 = 63 + 236 below the base
}

// P16.3: the coded need where it wraps: the greatest capacity tells, not the one that is used.
func TestEncodeNeedWraps(t *testing.T) {
	for _, c := range []struct{ most, twice int }{{68, 4}, {95, 4}, {96, 6}, {127, 6}, {128, 8}, {1000, 62}, {1 << 20, 65536}} {
		x := encoder(t, c.most, 68)
		for n := range 150 {
			f := fd("", string(rune('a'+n%3)))
			wantEncode(t, x, n, fds(f), sectionOf(0, n, linePlain(f.Name, f.Value)))
			wantOut(t, x, insertOf(f.Name, f.Value))
			wantFeed(t, x, insertsOf(1), api.OK)
			wantEncode(t, x, n, fds(f), sectionOf((n+1)%c.twice+1, 0, lineDynamic(0)))
			wantFeed(t, x, readOf(n), api.OK)
		}
	}
}

package qpack_test

import (
	"bytes"
	"slices"
	"testing"

	"turnpike/api"
	"turnpike/qpack"
)

// roomy: the same items with spare room behind them, that is filled.
func roomy[T any](list []T, fill T) []T {
	whole := append(slices.Clone(list), slices.Repeat([]T{fill}, 20)...)
	return whole[:len(list)]
}

// spoil writes over a list and its spare room.
func spoil[T any](list []T, with T) {
	list = list[:cap(list)]
	for i := range list {
		list[i] = with
	}
}

// lent: bytes with spare room, and the call that asks whether both are as they were and then writes over them.
func lent(t *testing.T, b []byte) (list []byte, back func()) {
	list = roomy(b, 0x99)
	was := slices.Clone(list[:cap(list)])
	return list, func() {
		t.Helper()
		if !bytes.Equal(list[:cap(list)], was) {
			t.Errorf("%.40x was changed", b)
		}
		spoil(list, 0x55)
	}
}

// P16.9: an encoder neither changes nor keeps the fields that it is handed.
func TestMemoryOfEncode(t *testing.T) {
	x := encoder(t, 200, 200)
	given := roomy(fds(fd("a", "b"), fd(":path", "/"), fd("c", "d")), fd("spare", "room"))
	was := slices.Clone(given[:cap(given)])
	for range 3 {
		x.Encode(4, given)
		x.Encode(-1, given)
	}
	if !slices.Equal(given[:cap(given)], was) {
		t.Errorf("Encode changed its fields: %v", given)
	}
	wantFeed(t, x, insertsOf(2), api.OK)
	spoil(given, fd("x", "y"))
	wantEncode(t, x, 4, fds(fd("a", "b"), fd("c", "d")), unhex(t, "0300 81 80"))
}

// P16.9: what an encoder tells is new memory each time.
func TestMemoryOfSections(t *testing.T) {
	x, _ := qpack.NewEncoder(1000, 1000)
	first := x.Out()
	spoil(first, 0x55)
	fields := fds(fd("a", "b"), fd("c", "d"), fd(":path", "/x"))
	b, _ := x.Encode(0, fields)
	want := slices.Clone(b)
	again, _ := x.Encode(0, fields)
	spoil(b, 0x55)
	if !bytes.Equal(again, want) {
		t.Errorf("a section changed with the one ahead of it")
	}
	wantEncode(t, x, 0, fields, want)
	out := x.Out()
	said := slices.Clone(out)
	x.Encode(0, fds(fd("e", "f")))
	if !bytes.Equal(out, said) {
		t.Errorf("what was said changed")
	}
	spoil(out, 0x55)
	wantOut(t, x, insertOf("e", "f"))
	wantFeed(t, x, insertsOf(4), api.OK)
	wantEncode(t, x, 0, append(fields, fd("e", "f")), unhex(t, "0500 83 82 81 80"))
}

// P16.9: neither side changes or keeps what it is fed, though a piece of an instruction waits.
func TestMemoryOfFeeds(t *testing.T) {
	told := slices.Concat(insertsOf(100), readOf(300), cancelledOf(300))
	for cut := range len(told) + 1 {
		x := many(t, 150)
		wantFeed(t, x, insertsOf(1), api.OK)
		x.Encode(300, fds(numbered(0)))
		for _, piece := range [][]byte{told[:cut], told[cut:]} {
			b, back := lent(t, piece)
			wantFeed(t, x, b, api.OK)
			back()
		}
		wantKnown(t, x, 101)
		wantFeed(t, x, readOf(300), api.ErrStream)
	}
	inserts := slices.Concat(insertOf("aaaaaa", "&&&"), insertStatic(1, "/x"), insertDynamic(1, "yy"), repeatOf(0))
	for cut := range len(inserts) + 1 {
		d := filled(t, tableMost)
		for _, piece := range [][]byte{inserts[:cut], inserts[cut:]} {
			b, back := lent(t, piece)
			wantFeed(t, d, b, api.OK)
			back()
		}
		wantTable(t, d, tableMost, 0, fd("aaaaaa", "&&&"), fd(":path", "/x"), fd("aaaaaa", "yy"), fd("aaaaaa", "yy"))
	}
	// What is refused is not changed either.
	for _, digits := range []string{"e800", "3fffff7f", "61ff", "c181ff"} {
		b, back := lent(t, unhex(t, digits))
		filled(t, 100).Feed(b)
		back()
	}
}

// P16.9: a decoder neither changes nor keeps a section, though it waits; its fields are new memory each time.
func TestMemoryOfSection(t *testing.T) {
	d := empty(t, 9, 1000)
	b, back := lent(t, sectionOf(2, 0, lineDynamic(0), linePlain("aaaaaa", "&&&"), lineStatic(1)))
	wantWaits(t, d, 4, b)
	wantWaits(t, d, 8, b)
	back()
	for _, digits := range []string{"", "ff", "0000 e8", "0000 ca ca"} {
		b, back := lent(t, unhex(t, digits))
		d.Section(12, b)
		back()
	}
	wantFeed(t, d, insertOf("n", "0"), api.OK)
	want := fds(numbered(0), fd("aaaaaa", "&&&"), fd(":path", "/"))
	ready := d.Ready()
	if len(ready) != 2 || !slices.Equal(ready[0].Fields, want) || !slices.Equal(ready[1].Fields, want) {
		t.Fatalf("Ready: %v", ready)
	}
	spoil(ready[0].Fields, fd("x", "y"))
	if !slices.Equal(ready[1].Fields, want) {
		t.Errorf("two lists of Ready share memory")
	}
	spoil(ready, done(99))
	b, back = lent(t, sectionOf(2, 0, lineDynamic(0), linePlain("aaaaaa", "&&&"), lineStatic(1)))
	one, _, _ := d.Section(4, b)
	two, _, _ := d.Section(4, b)
	back()
	spoil(one, fd("x", "y"))
	if !slices.Equal(two, want) {
		t.Errorf("two answers of Section share memory: %v", two)
	}
	wantFields(t, d, 4, sectionOf(2, 0, lineDynamic(0)), fds(numbered(0)))
	wantWaits(t, d, 4, waitFor(2))
	wantFeed(t, d, insertOf("n", "1"), api.OK)
	wantReady(t, d, done(4, numbered(1)))
}

// P16.9: what a decoder says is new memory.
func TestMemoryOfOut(t *testing.T) {
	d := empty(t, 9, 1000)
	wantFeed(t, d, insertOf("n", "0"), api.OK)
	d.Cancel(5)
	out := d.Out()
	said := slices.Clone(out)
	d.Cancel(6)
	if !bytes.Equal(out, said) {
		t.Errorf("what was said changed")
	}
	spoil(out, 0x55)
	wantOut(t, d, cancelledOf(6))
}

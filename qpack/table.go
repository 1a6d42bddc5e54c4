package qpack

import "turnpike/api"

// table is a dynamic table, as both sides keep it.
type table struct {
	capacity int
	size     int         // of all entries that are there
	gone     int         // how many have gone: the number of the oldest one that is there
	entries  []api.Field // in the order of their numbers
}

// count: how many entries were ever inserted.
func (t *table) count() int {
	return t.gone + len(t.entries)
}

// entry: the entry of a number, if it is there.
func (t *table) entry(n int) (f api.Field, ok bool) {
	if n < t.gone || n >= t.count() {
		return api.Field{}, false
	}
	return t.entries[n-t.gone], true
}

// last: the number of the last entry below a number that has a field's name and value.
func (t *table) last(f api.Field, below int) (n int, ok bool) {
	for n := min(below, t.count()) - 1; n >= t.gone; n-- {
		if t.entries[n-t.gone] == f {
			return n, true
		}
	}
	return 0, false
}

// insert: an entry more, which is not greater than the capacity.
func (t *table) insert(f api.Field) {
	t.shrink(t.capacity - sizeOf(f))
	t.entries = append(t.entries, f)
	t.size += sizeOf(f)
}

// resize: another capacity.
func (t *table) resize(capacity int) {
	t.capacity = capacity
	t.shrink(capacity)
}

// shrink lets the oldest entries go till the others are no greater together than so much, which is not below 0.
func (t *table) shrink(most int) {
	for t.size > most {
		t.size -= sizeOf(t.entries[0])
		t.entries[0] = api.Field{} // else the memory behind the list would keep its texts
		t.entries = t.entries[1:]
		t.gone++
	}
}

package qpack

import (
	"slices"
	"strings"

	"turnpike/api"
)

// Encoder makes sections.
type Encoder struct {
	most  int // the greatest capacity that the decoder allows
	table table
	known int              // so many inserts have come to the decoder, for all that it told
	open  map[int][]naming // the open sections of each stream, in their order
	out   []byte
	rest  []byte // of an instruction that is not there whole
	fault api.Errno
}

// naming: which entries a section names: none below least, none from need on.
type naming struct{ least, need int }

// writing is a section that is being written.
type writing struct {
	naming
	free  int // entries below this number may go
	lines []byte
}

// NewEncoder: an encoder.
func NewEncoder(most, use int) (*Encoder, api.Errno) {
	if !within(most, mostCapacity) || !within(use, most) {
		return nil, api.ErrRange
	}
	x := &Encoder{most: most, table: table{capacity: use}, open: map[int][]naming{}}
	if use > 0 {
		x.out = number(use, capacityBits, setCapacity)
	}
	return x, api.OK
}

// Encode: a section.
func (x *Encoder) Encode(stream int, fields []api.Field) ([]byte, api.Errno) {
	if !within(stream, api.MaxNum) {
		return nil, api.ErrStream
	}
	if areHuge(fields) {
		return nil, api.ErrHuge
	}
	w := &writing{free: x.free()}
	for _, f := range fields {
		x.write(w, f)
	}
	if w.need > 0 {
		x.open[stream] = append(x.open[stream], w.naming)
	}
	need, delta := number(x.coded(w.need), needBits, 0), number(x.known-w.need, deltaBits, 0)
	return slices.Concat(need, delta, w.lines), api.OK
}

// areHuge: whether fields are together above what a section may have.
func areHuge(fields []api.Field) bool {
	total := 0
	for _, f := range fields {
		total += sizeOf(f)
		if total > api.MaxData {
			return true
		}
	}
	return false
}

// free: the first entry that may not go, as far as the open sections and the known count say.
func (x *Encoder) free() int {
	free := x.known
	for _, list := range x.open {
		for _, s := range list {
			free = min(free, s.least)
		}
	}
	return free
}

// coded: a need as it stands in a section.
func (x *Encoder) coded(need int) int {
	if need == 0 {
		return 0
	}
	return need%(2*(x.most/entrySize)) + 1
}

// write: the line of a field, and the insert of one that is worth it.
func (x *Encoder) write(w *writing, f api.Field) {
	if n, ok := staticField(f); ok {
		w.add(number(n, indexedBits, indexed|indexedStatic))
		return
	}
	if n, ok := x.table.last(f, x.known); ok {
		w.name(n)
		w.add(number(x.known-1-n, indexedBits, indexed)) // the base is the known count
		return
	}
	if x.mayInsert(w, f) {
		x.insert(f)
	}
	w.add(lineOf(f))
}

// add: a line more.
func (w *writing) add(line []byte) {
	w.lines = append(w.lines, line...)
}

// name: a line names an entry, which must stay from now on.
func (w *writing) name(n int) {
	if w.need == 0 || n < w.least {
		w.least = n
	}
	w.need = max(w.need, n+1)
	w.free = min(w.free, n)
}

// mayInsert: whether a field is to be inserted, and can be.
func (x *Encoder) mayInsert(w *writing, f api.Field) bool {
	_, there := x.table.last(f, x.table.count())
	return !there && x.table.capacity/2 >= sizeOf(f) && x.fits(sizeOf(f), w.free)
}

// fits: whether there is room for so much once entries below free have gone.
func (x *Encoder) fits(size, free int) bool {
	room := x.table.capacity - x.table.size
	for n := x.table.gone; room < size; n++ {
		f, ok := x.table.entry(n)
		if !ok || n >= free {
			return false
		}
		room += sizeOf(f)
	}
	return true
}

// insert: an entry more, and the instruction for it.
func (x *Encoder) insert(f api.Field) {
	// The texts may be pieces of greater ones, which are not to be kept.
	x.table.insert(api.Field{Name: strings.Clone(f.Name), Value: strings.Clone(f.Value)})
	name := text(f.Name, plainBits, insertPlain)
	if n, ok := staticName(f.Name); ok {
		name = number(n, insertBits, insertNamed|insertStatic)
	}
	x.out = append(x.out, name...)
	x.out = append(x.out, text(f.Value, valueBits, 0)...)
}

// lineOf: the line of a field that tells its value.
func lineOf(f api.Field) []byte {
	name := text(f.Name, literalBits, literal)
	if n, ok := staticName(f.Name); ok {
		name = number(n, namedBits, named|namedStatic)
	}
	return slices.Concat(name, text(f.Value, valueBits, 0))
}

// Out: instructions for the decoder.
func (x *Encoder) Out() []byte {
	out := x.out
	x.out = nil
	return out
}

// Feed: the decoder's instructions.
func (x *Encoder) Feed(b []byte) api.Errno {
	if x.fault == api.OK {
		x.rest, x.fault = takeWhole(slices.Concat(x.rest, b), x.take)
	}
	return x.fault
}

// take: one instruction.
func (x *Encoder) take(r *reading) {
	first := r.first()
	switch {
	case first&sectionRead != 0:
		x.wasRead(r.number(readBits))
	case first&cancelled != 0:
		delete(x.open, r.number(cancelledBits))
	default:
		inserts := r.number(insertsBits)
		refuseIf(inserts == 0 || inserts > x.table.count()-x.known, api.ErrIndex)
		x.known += inserts
	}
}

// wasRead: the first open section of a stream has been read.
func (x *Encoder) wasRead(stream int) {
	list := x.open[stream]
	refuseIf(len(list) == 0, api.ErrStream)
	x.known = max(x.known, list[0].need)
	if len(list) == 1 {
		delete(x.open, stream)
		return
	}
	x.open[stream] = list[1:]
}

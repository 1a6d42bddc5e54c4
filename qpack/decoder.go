package qpack

import (
	"slices"

	"turnpike/api"
	"turnpike/prefix"
)

// Decoder reads sections.
type Decoder struct {
	most    int // the greatest capacity
	blocked int // so many sections may wait
	limit   int // of the sizes of a section's fields
	table   table
	waiting []waiting // in the order in which they came to wait
	ready   []Done
	out     []byte
	rest    []byte // of an instruction that is not there whole
	fault   api.Errno
}

// waiting is a section that waits for inserts.
type waiting struct {
	stream, need int
	rest         []byte // what stands behind the coded need
}

// Done is a section that waited.
type Done struct {
	Stream int
	Fields []api.Field
	Error  api.Errno
}

// NewDecoder: a decoder.
func NewDecoder(most, blocked, limit int) (*Decoder, api.Errno) {
	if !within(most, mostCapacity) || !within(blocked, mostBlocked) || !within(limit, mostLimit) {
		return nil, api.ErrRange
	}
	return &Decoder{most: most, blocked: blocked, limit: limit}, api.OK
}

// Feed: the encoder's instructions.
func (d *Decoder) Feed(b []byte) api.Errno {
	if d.fault != api.OK {
		return d.fault
	}
	before := d.table.count()
	d.rest, d.fault = takeWhole(slices.Concat(d.rest, b), d.take)
	if inserts := d.table.count() - before; inserts > 0 {
		d.say(number(inserts, insertsBits, 0))
		d.readWaiting()
	}
	return d.fault
}

// take: one instruction.
func (d *Decoder) take(r *reading) {
	first := r.first()
	switch {
	case first&insertNamed != 0:
		d.takeNamed(r, first&insertStatic != 0)
	case first&insertPlain != 0:
		name := r.text(plainBits)
		d.insert(api.Field{Name: name, Value: r.text(valueBits)})
	case first&setCapacity != 0:
		capacity := r.number(capacityBits)
		refuseIf(capacity > d.most, api.ErrCapacity)
		d.table.resize(capacity)
	default:
		f, ok := d.entry(r.number(repeatBits), false)
		refuseIf(!ok, api.ErrIndex)
		d.insert(f)
	}
}

// takeNamed: an insert with the name of an entry.
func (d *Decoder) takeNamed(r *reading, static bool) {
	f, ok := d.entry(r.number(insertBits), static)
	e := faultOf(func() { f.Value = r.text(valueBits) })
	refuseIf(e == api.ErrShort, e) // what is not there whole waits, whatever it names
	refuseIf(!ok, api.ErrIndex)
	refuseIf(e != api.OK, e)
	d.insert(f)
}

// entry: the entry that an instruction names.
func (d *Decoder) entry(n int, static bool) (f api.Field, ok bool) {
	if static {
		return Static(n)
	}
	return d.table.entry(d.table.count() - 1 - n)
}

// insert: an entry more.
func (d *Decoder) insert(f api.Field) {
	refuseIf(sizeOf(f) > d.table.capacity, api.ErrCapacity)
	d.table.insert(f)
}

// Section: a section's fields.
func (d *Decoder) Section(stream int, b []byte) (fields []api.Field, blocked bool, e api.Errno) {
	if d.fault != api.OK {
		return nil, false, d.fault
	}
	if !within(stream, api.MaxNum) || d.waits(stream) {
		return nil, false, api.ErrStream
	}
	need, at, ok := d.needOf(b)
	if !ok {
		return nil, false, api.ErrSection
	}
	if need <= d.table.count() {
		fields, e = d.read(stream, need, b[at:])
		return fields, false, e
	}
	if len(d.waiting) >= d.blocked {
		return nil, false, api.ErrBlocked
	}
	d.waiting = append(d.waiting, waiting{stream: stream, need: need, rest: slices.Clone(b[at:])})
	return nil, true, api.OK
}

// waits: whether a stream has a section that waits.
func (d *Decoder) waits(stream int) bool {
	return slices.ContainsFunc(d.waiting, func(w waiting) bool { return w.stream == stream })
}

// needOf: the need that stands at a section's beginning, and the place behind it, if it can be.
func (d *Decoder) needOf(b []byte) (need, at int, ok bool) {
	coded, at, e := prefix.Get(b, 0, needBits)
	if e != api.OK {
		return 0, 0, false
	}
	if coded == 0 {
		return 0, at, true
	}
	entries := d.most / entrySize
	greatest := d.table.count() + entries
	// The least need that is coded so is coded - 1 (for 1 it is one round more, since it is not 0).
	if coded > 2*entries || coded-1 > greatest {
		return 0, 0, false
	}
	need = greatest - (greatest-(coded-1))%(2*entries)
	return need, at, need > 0
}

// readWaiting reads the waiting sections whose need has come.
func (d *Decoder) readWaiting() {
	var still []waiting
	for _, w := range d.waiting {
		if w.need > d.table.count() {
			still = append(still, w)
			continue
		}
		fields, e := d.read(w.stream, w.need, w.rest)
		d.ready = append(d.ready, Done{Stream: w.stream, Fields: fields, Error: e})
	}
	d.waiting = still
}

// Cancel: a stream is cancelled.
func (d *Decoder) Cancel(stream int) api.Errno {
	if !within(stream, api.MaxNum) {
		return api.ErrStream
	}
	d.waiting = slices.DeleteFunc(d.waiting, func(w waiting) bool { return w.stream == stream })
	d.say(number(stream, cancelledBits, cancelled))
	return api.OK
}

// Ready: the sections that became ready.
func (d *Decoder) Ready() []Done {
	ready := d.ready
	d.ready = nil
	return ready
}

// Out: instructions for the encoder.
func (d *Decoder) Out() []byte {
	out := d.out
	d.out = nil
	return out
}

// say: an instruction more for the encoder.
func (d *Decoder) say(b []byte) {
	d.out = append(d.out, b...)
}

package qpack

import "turnpike/api"

// lines is a reading of a section, behind its coded need.
type lines struct {
	reading
	table *table
	need  int
	base  int
}

// read: the fields of a section whose need has come, from what stands behind the coded need.
func (d *Decoder) read(stream, need int, b []byte) (fields []api.Field, e api.Errno) {
	r := &lines{reading: reading{bytes: b}, table: &d.table, need: need}
	e = faultOf(func() { fields = r.fields(d.limit) })
	if e == api.ErrShort {
		e = api.ErrSection // no more bytes of a section come
	}
	if e == api.OK && need > 0 {
		d.say(number(stream, readBits, sectionRead))
	}
	return fields, e
}

// fields: the fields of all lines; the first one that is too much ends the reading.
func (r *lines) fields(limit int) []api.Field {
	r.readBase()
	var fields []api.Field
	total := 0
	for !r.ended() {
		f := r.line()
		total += sizeOf(f)
		refuseIf(total > limit, api.ErrLarge)
		fields = append(fields, f)
	}
	return fields
}

// readBase reads the delta.
func (r *lines) readBase() {
	below := r.first()&baseBelow != 0
	delta := r.number(deltaBits)
	r.base = r.need + delta
	if below {
		r.base = r.need - delta - 1
	}
	refuseIf(r.base < 0, api.ErrSection)
}

// line: the field of a line.
func (r *lines) line() api.Field {
	first := r.first()
	switch {
	case first&indexed != 0:
		return r.entry(r.number(indexedBits), first&indexedStatic != 0)
	case first&named != 0:
		f := r.entry(r.number(namedBits), first&namedStatic != 0)
		return r.withValue(f.Name)
	case first&literal != 0:
		return r.withValue(r.text(literalBits))
	case first&indexedPast != 0:
		return r.past(r.number(indexedPastBits))
	}
	return r.withValue(r.past(r.number(namedPastBits)).Name)
}

// withValue: a field of that name, with the value that stands here.
func (r *lines) withValue(name string) api.Field {
	return api.Field{Name: name, Value: r.text(valueBits)}
}

// entry: a static entry, or the dynamic one so far below the base.
func (r *lines) entry(n int, static bool) api.Field {
	if !static {
		return r.dynamic(r.base - 1 - n)
	}
	f, ok := Static(n)
	refuseIf(!ok, api.ErrSection)
	return f
}

// past: the dynamic entry so far past the base.
func (r *lines) past(n int) api.Field {
	refuseIf(n >= r.need-r.base, api.ErrSection) // ahead of the sum, which could wrap round
	return r.dynamic(r.base + n)
}

// dynamic: the dynamic entry of a number.
func (r *lines) dynamic(n int) api.Field {
	f, ok := r.table.entry(n)
	refuseIf(!ok || n >= r.need, api.ErrSection)
	return f
}

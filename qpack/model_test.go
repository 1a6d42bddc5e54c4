package qpack_test

import (
	"slices"

	"turnpike/api"
	"turnpike/prefix"
	"turnpike/qpack"
)

// store: a dynamic table by the chapter's words, that forgets nothing.
type store struct {
	capacity int
	all      []api.Field // by their numbers
	oldest   int         // the first that is still there
}

func size(f api.Field) int { return 32 + len(f.Name) + len(f.Value) }

// total: the sizes of all entries that are there.
func (s *store) total() int {
	sum := 0
	for _, f := range s.all[s.oldest:] {
		sum += size(f)
	}
	return sum
}

// there: whether an entry is there.
func (s *store) there(n int) bool { return n >= s.oldest && n < len(s.all) }

// let: the oldest go as long as so much more has no room.
func (s *store) let(more int) {
	for s.total()+more > s.capacity {
		s.oldest++
	}
}

// add: an insert.
func (s *store) add(f api.Field) {
	s.let(size(f))
	s.all = append(s.all, f)
}

// opened: an open section.
type opened struct {
	stream int
	names  []int
}

// modelEncoder: an encoder by the chapter's words.
type modelEncoder struct {
	store
	most, known int
	open        []opened // of all streams, in their order
	out, rest   []byte
	fault       api.Errno
}

func newModelEncoder(most, use int) *modelEncoder {
	m := &modelEncoder{most: most, store: store{capacity: use}}
	if use > 0 {
		m.out = capacityOf(use)
	}
	return m
}

// firstStatic: the first static entry that is so, or -1.
func firstStatic(is func(f api.Field) bool) int {
	return slices.IndexFunc(staticTable(), is)
}

// mayGo: whether an entry may go: it is known and older than all that are named.
func (m *modelEncoder) mayGo(n int, names []int) bool {
	for _, o := range m.open {
		names = append(slices.Clone(names), o.names...)
	}
	return n < m.known && !slices.ContainsFunc(names, func(named int) bool { return named <= n })
}

// room: whether there is room for a field, once those have gone that must.
func (m *modelEncoder) room(f api.Field, names []int) bool {
	try := store{capacity: m.capacity, all: m.all, oldest: m.oldest}
	try.let(size(f))
	for n := m.oldest; n < try.oldest; n++ {
		if !m.mayGo(n, names) {
			return false
		}
	}
	return true
}

// encode: a section.
func (m *modelEncoder) encode(stream int, fields []api.Field) ([]byte, api.Errno) {
	if stream < 0 || stream > api.MaxNum {
		return nil, api.ErrStream
	}
	sum := 0
	for _, f := range fields {
		sum += size(f)
	}
	if sum > api.MaxData {
		return nil, api.ErrHuge
	}
	var names []int
	var lines [][]byte
	for _, f := range fields {
		line, named := m.line(f, names)
		lines = append(lines, line)
		if named >= 0 {
			names = append(names, named)
		}
	}
	need, coded := 0, 0
	if len(names) > 0 {
		need = slices.Max(names) + 1
		coded = need%(m.most/32*2) + 1
		m.open = append(m.open, opened{stream, names})
	}
	return sectionOf(coded, m.known-need, lines...), api.OK
}

// line: the line of a field, and the entry that it names, or -1.
func (m *modelEncoder) line(f api.Field, names []int) (line []byte, named int) {
	if n := firstStatic(func(s api.Field) bool { return s == f }); n >= 0 {
		return lineStatic(n), -1
	}
	found := -1
	for n, has := range m.all {
		if has != f || !m.there(n) {
			continue
		}
		found = n
		if n < m.known {
			named = n + 1
		}
	}
	if named > 0 {
		return lineDynamic(m.known - named), named - 1
	}
	n := firstStatic(func(s api.Field) bool { return s.Name == f.Name })
	if found < 0 && 2*size(f) <= m.capacity && m.room(f, names) {
		m.add(f)
		if n >= 0 {
			m.out = append(m.out, insertStatic(n, f.Value)...)
		} else {
			m.out = append(m.out, insertOf(f.Name, f.Value)...)
		}
	}
	if n >= 0 {
		return lineStaticName(n, f.Value), -1
	}
	return linePlain(f.Name, f.Value), -1
}

// feed: the decoder's instructions.
func (m *modelEncoder) feed(b []byte) api.Errno {
	if m.fault != api.OK {
		return m.fault
	}
	m.rest = slices.Concat(m.rest, b)
	for len(m.rest) > 0 && m.fault == api.OK {
		bits := 6
		if m.rest[0] >= 128 {
			bits = 7
		}
		n, end, e := prefix.Get(m.rest, 0, bits)
		if e == api.ErrShort {
			break
		}
		switch {
		case e != api.OK:
			m.fault = api.ErrSection
		case m.rest[0] >= 128:
			m.fault = m.closed(n)
		case m.rest[0] >= 64:
			m.open = slices.DeleteFunc(m.open, func(o opened) bool { return o.stream == n })
		case n == 0 || m.known+n > len(m.all):
			m.fault = api.ErrIndex
		default:
			m.known += n
		}
		m.rest = m.rest[end:]
	}
	return m.fault
}

// closed: the first open section of a stream is read.
func (m *modelEncoder) closed(stream int) api.Errno {
	i := slices.IndexFunc(m.open, func(o opened) bool { return o.stream == stream })
	if i < 0 {
		return api.ErrStream
	}
	m.known = max(m.known, slices.Max(m.open[i].names)+1)
	m.open = slices.Delete(m.open, i, i+1)
	return api.OK
}

// held: a section that waits.
type held struct {
	stream, need int
	rest         []byte
}

// modelDecoder: a decoder by the chapter's words.
type modelDecoder struct {
	store
	most, blocked, limit int
	waits                []held
	ready                []qpack.Done
	out, rest            []byte
	fault                api.Errno
}

// feed: the encoder's instructions.
func (m *modelDecoder) feed(b []byte) api.Errno {
	if m.fault != api.OK {
		return m.fault
	}
	m.rest = slices.Concat(m.rest, b)
	before := len(m.all)
	for len(m.rest) > 0 {
		end, e := m.instruction(m.rest)
		if e == api.ErrShort {
			break
		}
		if e != api.OK {
			m.fault = e
			break
		}
		m.rest = m.rest[end:]
	}
	if inserts := len(m.all) - before; inserts > 0 {
		m.out = append(m.out, insertsOf(inserts)...)
		for i := 0; i < len(m.waits); {
			w := m.waits[i]
			if w.need > len(m.all) {
				i++
				continue
			}
			m.waits = slices.Delete(m.waits, i, i+1)
			fields, e := m.read(w)
			m.ready = append(m.ready, qpack.Done{Stream: w.stream, Fields: fields, Error: e})
		}
	}
	return m.fault
}

// instruction: the first instruction, and where it ends.
func (m *modelDecoder) instruction(b []byte) (end int, e api.Errno) {
	var f api.Field
	named := true // an entry that is there, or none
	switch first := b[0]; {
	case first >= 128: // 1 T
		n, at, e := prefix.Get(b, 0, 6)
		if e != api.OK {
			return 0, told(e)
		}
		if first >= 192 {
			named = n < 40
		} else {
			named = m.there(len(m.all) - 1 - n)
		}
		if named && first >= 192 {
			f.Name = staticTable()[n].Name
		} else if named {
			f.Name = m.all[len(m.all)-1-n].Name
		}
		f.Value, end, e = prefix.GetText(b, at, 7)
		if e != api.OK && (named || e == api.ErrShort) {
			return 0, told(e)
		}
	case first >= 64: // 01 H
		name, at, e := prefix.GetText(b, 0, 5)
		if e != api.OK {
			return 0, told(e)
		}
		f.Name = name
		f.Value, end, e = prefix.GetText(b, at, 7)
		if e != api.OK {
			return 0, told(e)
		}
	case first >= 32: // 001
		n, end, e := prefix.Get(b, 0, 5)
		if e == api.OK && n > m.most {
			return 0, api.ErrCapacity
		}
		if e == api.OK {
			m.capacity = n
			m.let(0)
		}
		return end, told(e)
	default: // 000
		n, at, e := prefix.Get(b, 0, 5)
		if e != api.OK {
			return 0, told(e)
		}
		if named = m.there(len(m.all) - 1 - n); named {
			f = m.all[len(m.all)-1-n]
		}
		end = at
	}
	if !named {
		return 0, api.ErrIndex
	}
	if size(f) > m.capacity {
		return 0, api.ErrCapacity
	}
	m.add(f)
	return end, api.OK
}

// told: what is told where layer 15 answers an error; bytes that are missing may still come.
func told(e api.Errno) api.Errno {
	if e == api.OK || e == api.ErrShort {
		return e
	}
	return api.ErrSection
}

// section: a section's fields.
func (m *modelDecoder) section(stream int, b []byte) (fields []api.Field, waits bool, e api.Errno) {
	if m.fault != api.OK {
		return nil, false, m.fault
	}
	if stream < 0 || stream > api.MaxNum || slices.ContainsFunc(m.waits, func(w held) bool { return w.stream == stream }) {
		return nil, false, api.ErrStream
	}
	coded, at, e := prefix.Get(b, 0, 8)
	if e != api.OK {
		return nil, false, api.ErrSection
	}
	need := needOf(m.most, len(m.all), coded)
	switch {
	case need < 0:
		return nil, false, api.ErrSection
	case need > len(m.all) && len(m.waits) == m.blocked:
		return nil, false, api.ErrBlocked
	case need > len(m.all):
		m.waits = append(m.waits, held{stream, need, slices.Clone(b[at:])})
		return nil, true, api.OK
	}
	fields, e = m.read(held{stream, need, b[at:]})
	return fields, false, e
}

// read: the fields of a section whose inserts have come.
func (m *modelDecoder) read(w held) ([]api.Field, api.Errno) {
	b := w.rest
	delta, at, e := prefix.Get(b, 0, 7)
	if e != api.OK {
		return nil, api.ErrSection
	}
	base := w.need + delta
	if b[0] >= 128 {
		base = w.need - delta - 1
	}
	if base < 0 {
		return nil, api.ErrSection
	}
	var fields []api.Field
	sum := 0
	for at < len(b) {
		f, end, ok := m.line(b, at, w.need, base)
		if !ok {
			return nil, api.ErrSection
		}
		if sum += size(f); sum > m.limit {
			return nil, api.ErrLarge
		}
		fields = append(fields, f)
		at = end
	}
	if w.need > 0 {
		m.out = append(m.out, readOf(w.stream)...)
	}
	return fields, api.OK
}

// line: the field of a line and the place behind it.
func (m *modelDecoder) line(b []byte, at, need, base int) (f api.Field, end int, ok bool) {
	first := int(b[at])
	entry := func(n int) (api.Field, bool) {
		if n < need && m.there(n) {
			return m.all[n], true
		}
		return api.Field{}, false
	}
	indexed := func(bits int, static, past bool) (api.Field, int, bool) {
		n, end, e := prefix.Get(b, at, bits)
		if e != api.OK || static && n >= 40 || past && n > 1<<40 {
			return api.Field{}, 0, false
		}
		var f api.Field
		ok := true
		switch {
		case static:
			f = staticTable()[n]
		case past:
			f, ok = entry(base + n)
		default:
			f, ok = entry(base - 1 - n)
		}
		return f, end, ok
	}
	switch {
	case first >= 128:
		return indexed(6, first >= 192, false)
	case first >= 64:
		f, end, ok = indexed(4, first/16%2 == 1, false)
	case first >= 32:
		name, behind, e := prefix.GetText(b, at, 3)
		f, end, ok = fd(name, ""), behind, e == api.OK
	case first >= 16:
		return indexed(4, false, true)
	default:
		f, end, ok = indexed(3, false, true)
	}
	if !ok {
		return api.Field{}, 0, false
	}
	value, behind, e := prefix.GetText(b, end, 7)
	return fd(f.Name, value), behind, e == api.OK
}

// cancel: a stream is cancelled.
func (m *modelDecoder) cancel(stream int) api.Errno {
	if stream < 0 || stream > api.MaxNum {
		return api.ErrStream
	}
	m.waits = slices.DeleteFunc(m.waits, func(w held) bool { return w.stream == stream })
	m.out = append(m.out, cancelledOf(stream)...)
	return api.OK
}

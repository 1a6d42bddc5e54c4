package params

import (
	"slices"

	"turnpike/api"
	"turnpike/varint"
)

// Encode: their bytes.
func Encode(p Params, server bool) ([]byte, api.Errno) {
	if e := Check(p, server); e != api.OK {
		return nil, e
	}
	var b []byte
	for _, f := range p.fields() {
		if f.told() {
			value := f.bytes()
			b = slices.Concat(b, form(f.id), form(len(value)), value)
		}
	}
	return b, api.OK
}

// Decode: what the bytes tell.
func Decode(b []byte, server bool) (p Params, at int, e api.Errno) {
	if len(b) > api.MaxData {
		return Params{}, 0, api.ErrHuge
	}
	p = Usual()
	fields := p.fields()
	times := map[int]int{}
	r := varint.Open(b)
	for r.Left() > 0 {
		at = r.At()
		id := r.Number()
		value := r.Bytes(r.Number())
		times[id]++
		switch {
		case r.Fault() != api.OK:
			return Params{}, at, api.ErrShort
		case times[id] > 1:
			return Params{}, at, api.ErrTwice
		case !takes(fields, id, value, server):
			return Params{}, at, api.ErrParam
		}
	}
	return p, 0, api.OK
}

// takes: can the parameter be taken? One that no field has is passed over.
func takes(fields []field, id int, value []byte, server bool) bool {
	for _, f := range fields {
		if f.id == id {
			return f.take(value) && f.right(server)
		}
	}
	return true
}

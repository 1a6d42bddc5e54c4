package qpack

import (
	"slices"

	"turnpike/api"
	"turnpike/prefix"
)

// reading goes through bytes; what it can't go on from it panics with, as an api.Errno.
type reading struct {
	bytes []byte
	at    int
}

// ended: whether no byte is left.
func (r *reading) ended() bool {
	return r.at == len(r.bytes)
}

// first: the byte that stands here.
func (r *reading) first() byte {
	refuseIf(r.ended(), api.ErrShort)
	return r.bytes[r.at]
}

// number: the number that stands here, in so many bits and what follows.
func (r *reading) number(bits int) int {
	n, end, e := prefix.Get(r.bytes, r.at, bits)
	r.goTo(end, e)
	return n
}

// text: the text that stands here, its length in so many bits and what follows.
func (r *reading) text(bits int) string {
	s, end, e := prefix.GetText(r.bytes, r.at, bits)
	r.goTo(end, e)
	return s
}

// goTo goes on at a place, or ends the reading, if layer 15 told an error. Missing bytes stay told apart: they may come later.
func (r *reading) goTo(end int, e api.Errno) {
	refuseIf(e == api.ErrShort, e)
	refuseIf(e != api.OK, api.ErrSection)
	r.at = end
}

// refuseIf ends the reading with that error, if so.
func refuseIf(so bool, e api.Errno) {
	if so {
		panic(e)
	}
}

// faultOf reads, and tells what ended the reading.
func faultOf(read func()) (e api.Errno) {
	defer func() {
		if why := recover(); why != nil {
			e = why.(api.Errno) // panics anew at anything else: a fault of the program is not to be hidden
		}
	}()
	read()
	return api.OK
}

// takeWhole takes the instructions that are there whole, up to the first that is wrong, and tells the bytes of one that is not whole.
func takeWhole(b []byte, take func(r *reading)) (rest []byte, e api.Errno) {
	r := &reading{bytes: b}
	taken := 0
	e = faultOf(func() {
		for !r.ended() {
			take(r)
			taken = r.at
		}
	})
	if e == api.ErrShort {
		return slices.Clone(b[taken:]), api.OK
	}
	return nil, e
}

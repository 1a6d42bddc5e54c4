package params

import (
	"turnpike/api"
	"turnpike/varint"
)

const (
	resetSize    = 16
	leastUdp     = 1200
	mostStreams  = 1 << 60
	mostExponent = 20
	mostAckDelay = 1<<14 - 1
	leastCids    = 2
)

// field is a parameter's id and its place in Params.
type field struct {
	id int
	value
}

// value is what the kinds of parameters have in common.
type value interface {
	right(server bool) bool // does it hold what it must?
	told() bool             // is it other than what holds without it?
	bytes() []byte          // maybe the caller's own memory: not to be handed out
	take(b []byte) bool     // keeps b; false, if b is not of the kind
}

// fields: the chapter's table, over the fields of p, by rising ids.
func (p *Params) fields() []field {
	usual := Usual()
	return []field{
		{0, serverData{data{&p.HasOrig, &p.Orig, 0, api.MaxCid}}},
		{1, number{&p.Idle, usual.Idle, 0, api.MaxNum}},
		{2, serverData{data{&p.HasReset, &p.Reset, resetSize, resetSize}}},
		{3, number{&p.MaxUdp, usual.MaxUdp, leastUdp, api.MaxNum}},
		{4, number{&p.MaxData, usual.MaxData, 0, api.MaxNum}},
		{5, number{&p.BidiLocal, usual.BidiLocal, 0, api.MaxNum}},
		{6, number{&p.BidiRemote, usual.BidiRemote, 0, api.MaxNum}},
		{7, number{&p.Uni, usual.Uni, 0, api.MaxNum}},
		{8, number{&p.StreamsBidi, usual.StreamsBidi, 0, mostStreams}},
		{9, number{&p.StreamsUni, usual.StreamsUni, 0, mostStreams}},
		{10, number{&p.Exponent, usual.Exponent, 0, mostExponent}},
		{11, number{&p.AckDelay, usual.AckDelay, 0, mostAckDelay}},
		{12, mark{&p.NoMove}},
		{14, number{&p.Cids, usual.Cids, leastCids, api.MaxNum}},
		{15, data{&p.HasSrc, &p.Src, 0, api.MaxCid}},
		{16, serverData{data{&p.HasRetry, &p.Retry, 0, api.MaxCid}}},
	}
}

// number is a value of the kind n.
type number struct {
	at          *int
	usual       int
	least, most int
}

func (n number) right(server bool) bool { return n.least <= *n.at && *n.at <= n.most }

func (n number) told() bool { return *n.at != n.usual }

func (n number) bytes() []byte { return form(*n.at) }

func (n number) take(b []byte) bool {
	told, end, e := varint.Get(b, 0)
	if e != api.OK || end != len(b) {
		return false
	}
	*n.at = told
	return true
}

// data is a value of the kind b.
type data struct {
	has         *bool
	at          *[]byte
	least, most int // how many bytes
}

func (d data) right(server bool) bool {
	return !*d.has || d.least <= len(*d.at) && len(*d.at) <= d.most
}

func (d data) told() bool { return *d.has }

func (d data) bytes() []byte { return *d.at }

func (d data) take(b []byte) bool {
	*d.has, *d.at = true, b
	return true
}

// serverData is a value of the kind b that is the server's alone.
type serverData struct{ data }

func (s serverData) right(server bool) bool {
	return s.data.right(server) && (server || !*s.has)
}

// mark is a value of the kind 0.
type mark struct{ at *bool }

func (m mark) right(server bool) bool { return true }

func (m mark) told() bool { return *m.at }

func (m mark) bytes() []byte { return nil }

func (m mark) take(b []byte) bool {
	if len(b) != 0 {
		return false
	}
	*m.at = true
	return true
}

// form: the shortest form of n, which is a number, as a check has found.
func form(n int) []byte {
	b, _ := varint.Put(n)
	return b
}

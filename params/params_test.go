package params_test

import (
	"bytes"
	"encoding/hex"
	"math"
	"slices"
	"strings"
	"testing"

	"turnpike/api"
	"turnpike/params"
)

// numberLine is a line of the chapter's table for the kind n.
type numberLine struct {
	id          int
	name        string
	at          func(p *params.Params) *int
	usual       int
	least, most int
}

// numberLines: the lines of the kind n, by rising ids, written down once more.
func numberLines() []numberLine {
	type p = *params.Params
	return []numberLine{
		{1, "Idle", func(p p) *int { return &p.Idle }, 0, 0, 1<<62 - 1},
		{3, "MaxUdp", func(p p) *int { return &p.MaxUdp }, 65527, 1200, 1<<62 - 1},
		{4, "MaxData", func(p p) *int { return &p.MaxData }, 0, 0, 1<<62 - 1},
		{5, "BidiLocal", func(p p) *int { return &p.BidiLocal }, 0, 0, 1<<62 - 1},
		{6, "BidiRemote", func(p p) *int { return &p.BidiRemote }, 0, 0, 1<<62 - 1},
		{7, "Uni", func(p p) *int { return &p.Uni }, 0, 0, 1<<62 - 1},
		{8, "StreamsBidi", func(p p) *int { return &p.StreamsBidi }, 0, 0, 1 << 60},
		{9, "StreamsUni", func(p p) *int { return &p.StreamsUni }, 0, 0, 1 << 60},
		{10, "Exponent", func(p p) *int { return &p.Exponent }, 3, 0, 20},
		{11, "AckDelay", func(p p) *int { return &p.AckDelay }, 25, 0, 16383},
		{14, "Cids", func(p p) *int { return &p.Cids }, 2, 2, 1<<62 - 1},
	}
}

// edges: numbers at which the lines of the table differ, and beside them.
func edges() []int {
	list := []int{math.MinInt, math.MinInt + 1, -1 << 62, -1200, -2, -1, math.MaxInt - 1, math.MaxInt}
	for _, n := range []int{0, 1, 2, 3, 20, 25, 63, 64, 1200, 16383, 16384, 65527, 1<<30 - 1, 1 << 30, 1 << 60, 1<<62 - 1, 1 << 62} {
		list = append(list, n-1, n, n+1)
	}
	slices.Sort(list)
	return slices.Compact(list)
}

// bytesLine is a line of the chapter's table for the kind b.
type bytesLine struct {
	id          int
	name        string
	has         func(p *params.Params) *bool
	at          func(p *params.Params) *[]byte
	least, most int
	serverAlone bool
}

// bytesLines: the lines of the kind b, by rising ids, written down once more.
func bytesLines() []bytesLine {
	type p = *params.Params
	return []bytesLine{
		{0, "Orig", func(p p) *bool { return &p.HasOrig }, func(p p) *[]byte { return &p.Orig }, 0, 20, true},
		{2, "Reset", func(p p) *bool { return &p.HasReset }, func(p p) *[]byte { return &p.Reset }, 16, 16, true},
		{15, "Src", func(p p) *bool { return &p.HasSrc }, func(p p) *[]byte { return &p.Src }, 0, 20, false},
		{16, "Retry", func(p p) *bool { return &p.HasRetry }, func(p p) *[]byte { return &p.Retry }, 0, 20, true},
	}
}

// lengths: of bytes, at which the lines of the table differ, and beside them.
func lengths() []int {
	return []int{0, 1, 2, 14, 15, 16, 17, 19, 20, 21, 22, 63, 64, 255, 256, 256 + 16, 70000}
}

// sides: the server and the client.
func sides() []bool { return []bool{true, false} }

// run: n bytes that differ from their neighbours.
func run(n, from int) []byte {
	b := make([]byte, n)
	for i := range b {
		b[i] = byte(from + 7*i)
	}
	return b
}

func unhex(t *testing.T, s string) []byte {
	t.Helper()
	b, err := hex.DecodeString(strings.ReplaceAll(s, " ", ""))
	if err != nil {
		t.Fatal(err)
	}
	return b
}

// same: do two say the same? Nil and empty are one.
func same(a, b params.Params) bool {
	for _, l := range numberLines() {
		if *l.at(&a) != *l.at(&b) {
			return false
		}
	}
	for _, l := range bytesLines() {
		if *l.has(&a) != *l.has(&b) || !bytes.Equal(*l.at(&a), *l.at(&b)) {
			return false
		}
	}
	return a.NoMove == b.NoMove
}

// allOf: what a side may tell, all of it and none of it usual.
func allOf(server bool) params.Params {
	p := params.Params{
		Idle: 1, MaxUdp: 1200, MaxData: 3, BidiLocal: 4, BidiRemote: 5, Uni: 6, StreamsBidi: 7, StreamsUni: 8,
		Exponent: 9, AckDelay: 10, Cids: 11, NoMove: true, HasSrc: true, Src: run(20, 90),
	}
	if server {
		p.HasOrig, p.Orig = true, run(20, 1)
		p.HasReset, p.Reset = true, run(16, 100)
		p.HasRetry, p.Retry = true, run(20, 200)
	}
	return p
}

// wantCheck asks Check, and Encode for the same error and nothing beside it.
func wantCheck(t *testing.T, p params.Params, server bool, want api.Errno) {
	t.Helper()
	if e := params.Check(p, server); e != want {
		t.Errorf("Check of %+v, server %v: %d; want %d", p, server, e, want)
	}
	b, e := params.Encode(p, server)
	if e != want || want != api.OK && len(b) != 0 {
		t.Errorf("Encode of %+v, server %v: %x, %d; want %d", p, server, b, e, want)
	}
}

// P9.1: what stands in the table for what is not told.
func TestUsual(t *testing.T) {
	want := params.Params{MaxUdp: 65527, Exponent: 3, AckDelay: 25, Cids: 2}
	if p := params.Usual(); !same(p, want) {
		t.Errorf("Usual: %+v", p)
	}
	p := params.Usual()
	for _, l := range numberLines() {
		if *l.at(&p) != l.usual {
			t.Errorf("%s: %d, want %d", l.name, *l.at(&p), l.usual)
		}
	}
	p.MaxUdp, p.HasSrc, p.Src = 1, true, []byte{1}
	if !same(params.Usual(), want) {
		t.Errorf("a second Usual: %+v", params.Usual())
	}
}

// P9.1: what is right as a whole.
func TestCheckWhole(t *testing.T) {
	for _, server := range sides() {
		wantCheck(t, params.Usual(), server, api.OK)
		wantCheck(t, allOf(server), server, api.OK)
		wantCheck(t, params.Params{}, server, api.ErrParam)
		wantCheck(t, params.Params{MaxUdp: 1200}, server, api.ErrParam)
		wantCheck(t, params.Params{Cids: 2}, server, api.ErrParam)
		wantCheck(t, params.Params{MaxUdp: 1200, Cids: 2}, server, api.OK)
	}
	wantCheck(t, allOf(true), false, api.ErrParam)
	wantCheck(t, allOf(false), true, api.OK)
}

// P9.1, P9.2: each number at the edges, beside what is usual and beside all the others.
func TestCheckNumbers(t *testing.T) {
	for _, server := range sides() {
		for _, l := range numberLines() {
			for _, n := range edges() {
				want := api.OK
				if n < l.least || n > l.most {
					want = api.ErrParam
				}
				for _, p := range []params.Params{params.Usual(), allOf(server)} {
					*l.at(&p) = n
					wantCheck(t, p, server, want)
				}
			}
		}
	}
}

// P9.1: the edges that the table names, one by one.
func TestCheckNamedEdges(t *testing.T) {
	for _, c := range []struct {
		change func(p *params.Params)
		want   api.Errno
	}{
		{func(p *params.Params) { p.Idle = -1 }, api.ErrParam},
		{func(p *params.Params) { p.Idle = 0 }, api.OK},
		{func(p *params.Params) { p.Idle = api.MaxNum }, api.OK},
		{func(p *params.Params) { p.Idle = api.MaxNum + 1 }, api.ErrParam},
		{func(p *params.Params) { p.MaxUdp = 1199 }, api.ErrParam},
		{func(p *params.Params) { p.MaxUdp = 1200 }, api.OK},
		{func(p *params.Params) { p.MaxUdp = 65527 }, api.OK},
		{func(p *params.Params) { p.MaxUdp = 65528 }, api.OK},
		{func(p *params.Params) { p.MaxUdp = api.MaxNum }, api.OK},
		{func(p *params.Params) { p.StreamsBidi = 1 << 60 }, api.OK},
		{func(p *params.Params) { p.StreamsBidi = 1<<60 + 1 }, api.ErrParam},
		{func(p *params.Params) { p.StreamsUni = 1 << 60 }, api.OK},
		{func(p *params.Params) { p.StreamsUni = 1<<60 + 1 }, api.ErrParam},
		{func(p *params.Params) { p.Exponent = 3 }, api.OK},
		{func(p *params.Params) { p.Exponent = 20 }, api.OK},
		{func(p *params.Params) { p.Exponent = 21 }, api.ErrParam},
		{func(p *params.Params) { p.AckDelay = 25 }, api.OK},
		{func(p *params.Params) { p.AckDelay = 1<<14 - 1 }, api.OK},
		{func(p *params.Params) { p.AckDelay = 1 << 14 }, api.ErrParam},
		{func(p *params.Params) { p.Cids = 1 }, api.ErrParam},
		{func(p *params.Params) { p.Cids = 2 }, api.OK},
		{func(p *params.Params) { p.Cids = 3 }, api.OK},
		{func(p *params.Params) { p.HasReset, p.Reset = true, make([]byte, 15) }, api.ErrParam},
		{func(p *params.Params) { p.HasReset, p.Reset = true, make([]byte, 16) }, api.OK},
		{func(p *params.Params) { p.HasReset, p.Reset = true, make([]byte, 17) }, api.ErrParam},
		{func(p *params.Params) { p.HasReset = true }, api.ErrParam},
		{func(p *params.Params) { p.HasOrig = true }, api.OK},
		{func(p *params.Params) { p.HasRetry, p.Retry = true, make([]byte, api.MaxCid+1) }, api.ErrParam},
		{func(p *params.Params) { p.NoMove = true }, api.OK},
	} {
		p := params.Usual()
		c.change(&p)
		wantCheck(t, p, true, c.want)
	}
}

// P9.1: bytes of each length, had and not had, by either side.
func TestCheckBytes(t *testing.T) {
	for _, server := range sides() {
		for _, l := range bytesLines() {
			for _, n := range lengths() {
				want := api.OK
				if n < l.least || n > l.most || l.serverAlone && !server {
					want = api.ErrParam
				}
				for _, p := range []params.Params{params.Usual(), allOf(server)} {
					*l.at(&p) = run(n, 3)
					*l.has(&p) = false
					wantCheck(t, p, server, api.OK)
					*l.has(&p) = true
					wantCheck(t, p, server, want)
				}
			}
		}
	}
}

// P9.1: one that is wrong among all others that are right, whichever it is.
func TestCheckOneWrong(t *testing.T) {
	for _, l := range numberLines() {
		p := allOf(true)
		*l.at(&p) = -1
		wantCheck(t, p, true, api.ErrParam)
	}
	for _, l := range bytesLines() {
		p := allOf(true)
		*l.at(&p) = run(21, 0)
		wantCheck(t, p, true, api.ErrParam)
		p = allOf(false)
		*l.has(&p), *l.at(&p) = true, run(16, 0)
		want := api.OK
		if l.serverAlone {
			want = api.ErrParam
		}
		wantCheck(t, p, false, want)
	}
}

package route_test

import (
	"bytes"
	"slices"
	"testing"

	"turnpike/api"
	"turnpike/route"
)

// roomy: the same bytes with spare room behind them, that is filled.
func roomy(b []byte) []byte {
	whole := append(slices.Clone(b), bytes.Repeat([]byte{0x99}, 40)...)
	return whole[:len(b)]
}

// spoil writes over a list and its spare room.
func spoil(b []byte) {
	b = b[:cap(b)]
	for i := range b {
		b[i] ^= 0xff
	}
}

// watch: a list with spare room, and the call that asks whether both are as they were.
func watch(t *testing.T, b []byte) (list []byte, unchanged func(what string)) {
	list = roomy(b)
	was := slices.Clone(list[:cap(list)])
	return list, func(what string) {
		t.Helper()
		if !bytes.Equal(list[:cap(list)], was) {
			t.Errorf("%s changed what it was handed", what)
		}
	}
}

// P13.6: the calls without a table neither change nor share what they are handed, and tell new memory each time.
func TestMemoryOfCalls(t *testing.T) {
	token := tokenOf([]byte(text), 7, 100, run(8, 1, 1))
	for name, call := range map[string]func(secret, data []byte) ([]byte, api.Errno){
		"Make":       func(secret, _ []byte) ([]byte, api.Errno) { return route.Make(secret, 3, 77) },
		"Reset":      func(secret, _ []byte) ([]byte, api.Errno) { return route.Reset(secret, run(20, 1, 1)) },
		"Reset of":   func(secret, data []byte) ([]byte, api.Errno) { return route.Reset(secret, data[:20]) },
		"Reset of 0": func(secret, data []byte) ([]byte, api.Errno) { return route.Reset(secret, data[:0]) },
		"Token of":   func(secret, data []byte) ([]byte, api.Errno) { return route.Token(secret, 7, 100, data[:20]) },
		"Token of 0": func(secret, data []byte) ([]byte, api.Errno) { return route.Token(secret, 7, 100, data[:0]) },
		"Proof of":   func(secret, data []byte) ([]byte, api.Errno) { return route.Proof(secret, 7, 100, data) },
	} {
		secret, secretUnchanged := watch(t, []byte(text))
		data, dataUnchanged := watch(t, token)
		first, e := call(secret, data)
		want := slices.Clone(first)
		if e != api.OK {
			t.Fatalf("%s: %d", name, e)
		}
		second, _ := call(secret, data)
		spoil(first)
		wantBytes(t, name+" after its other answer was spoiled", second, api.OK, want, api.OK)
		third, e := call(secret, data)
		wantBytes(t, name+" once more", third, e, want, api.OK)
		secretUnchanged(name)
		dataUnchanged(name)
		spoil(secret)
		spoil(data)
		wantBytes(t, name+" after its arguments were spoiled", third, api.OK, want, api.OK)
	}
}

// P13.6: Read changes nothing.
func TestMemoryOfRead(t *testing.T) {
	secret, secretUnchanged := watch(t, []byte(text))
	id, idUnchanged := watch(t, idOf([]byte(text), 3, 77))
	wantRead(t, secret, id, 3, 77, api.OK)
	secretUnchanged("Read")
	idUnchanged("Read")
}

// P13.6: a table keeps neither its secret nor ids as they were handed in, and changes none of them.
func TestMemoryOfTables(t *testing.T) {
	secret, secretUnchanged := watch(t, []byte(text))
	x := tableOf(t, route.Config{Secret: secret, Worker: 3, Most: 9, Retry: true})
	secretUnchanged("New")
	spoil(secret)
	wantNext(t, x, []byte(text), 3, 0)
	first, firstUnchanged := watch(t, run(8, 1, 1))
	own, ownUnchanged := watch(t, run(8, 1, 2))
	wantAdd(t, x, 1, first, own, api.OK)
	firstUnchanged("Add")
	ownUnchanged("Add")
	spoil(first)
	spoil(own)
	wantLeads(t, x, run(8, 1, 1), 1)
	wantLeads(t, x, run(8, 1, 2), 1)
	wantNowhere(t, x, first)
	wantNowhere(t, x, own)
	id := x.Next()
	spoil(id)
	wantNext(t, x, []byte(text), 3, 2)
	wantVerdict(t, x, 7, initialOf(run(8, 1, 5), nil, nil, 1200), 0, answered(retryReply([]byte(text), run(8, 1, 5), nil, idOf([]byte(text), 3, 3), 7, 0)))
	wantVerdict(t, x, 7, shortOf(run(8, 1, 5), 43), 0, answered(junkReset([]byte(text), run(8, 1, 5), shortOf(run(8, 1, 5), 43))))
	x.Remove(1)
	wantNowhere(t, x, run(8, 1, 1))
}

// P13.6: one list handed in for both ids.
func TestMemoryOfOneListForBoth(t *testing.T) {
	x := plain(t)
	id := run(8, 1, 1)
	wantAdd(t, x, 1, id, id, api.OK)
	spoil(id)
	x.Remove(1)
	wantNowhere(t, x, run(8, 1, 1))
	wantNowhere(t, x, id)
}

// P13.6: Look changes no datagram; verdicts share memory neither with it nor with each other, nor do their lists.
func TestMemoryOfVerdicts(t *testing.T) {
	for name, c := range map[string]struct {
		table    *route.Table
		datagram []byte
		again    bool // told the same once more
	}{
		"begin":  {plain(t), initialOf(run(20, 1, 1), run(20, 1, 50), nil, 1200), true},
		"proved": {asking(t), initialOf(run(20, 1, 1), run(20, 1, 50), tokenOf([]byte(text), 7, 100, run(20, 1, 1)), 1200), true},
		"reset":  {plain(t), shortOf(run(8, 1, 1), 43), true},
		"other":  {plain(t), longOf(0xc0, 9, run(20, 1, 1), run(20, 1, 50), make([]byte, 1200)), true},
		"retry":  {asking(t), initialOf(run(20, 1, 1), run(20, 1, 50), nil, 1200), false},
	} {
		d, unchanged := watch(t, c.datagram)
		v, e := c.table.Look(7, d, 0)
		unchanged("Look at " + name)
		if e != api.OK || v.Kind == route.Drop || v.Kind == route.To {
			t.Fatalf("Look at %s: %v, %d", name, v, e)
		}
		was := route.Verdict{Kind: v.Kind, First: slices.Clone(v.First), Peer: slices.Clone(v.Peer), Reply: slices.Clone(v.Reply)}
		spoil(d)
		if !same(v, was) {
			t.Errorf("%s shares memory with the datagram", name)
		}
		spoil(d)
		spoil(v.First)
		if !bytes.Equal(v.Peer, was.Peer) || !bytes.Equal(v.Reply, was.Reply) {
			t.Errorf("%s: First shares memory with another list", name)
		}
		spoil(v.Peer)
		spoil(v.Reply)
		unchanged("a spoiled verdict of " + name)
		if c.again {
			wantVerdict(t, c.table, 7, d, 0, was)
		}
	}
}

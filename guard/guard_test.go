package guard_test

import (
	"bytes"
	"encoding/binary"
	"encoding/hex"
	"math"
	"slices"
	"testing"

	"turnpike/api"
	"turnpike/guard"
	"turnpike/prim"
)

// run: n bytes, the one at i being step*i + first.
func run(n, step, first int) []byte {
	b := make([]byte, n)
	for i := range b {
		b[i] = byte(step*i + first)
	}
	return b
}

// roomy: the same bytes with spare room behind them, that is filled.
func roomy(b []byte) []byte {
	whole := append(slices.Clone(b), bytes.Repeat([]byte{0x99}, 40)...)
	return whole[:len(b)]
}

// spoil writes over lists and their spare room.
func spoil(lists ...[]byte) {
	for _, b := range lists {
		b = b[:cap(b)]
		for i := range b {
			b[i] ^= 0xff
		}
	}
}

// turn: the same bytes with one bit turned.
func turn(b []byte, bit int) []byte {
	b = slices.Clone(b)
	b[bit/8] ^= 1 << (bit % 8)
	return b
}

// unhex: the bytes that digits stand for.
func unhex(digits string) []byte {
	b, err := hex.DecodeString(digits)
	if err != nil {
		panic(err)
	}
	return b
}

// wantHex holds bytes against digits.
func wantHex(t *testing.T, what string, got []byte, digits string) {
	t.Helper()
	if hex.EncodeToString(got) != digits {
		t.Errorf("%s: %x; want %s", what, got, digits)
	}
}

// expanded: layer 7's Expand, of arguments that it takes.
func expanded(secret []byte, label string, n int) []byte {
	b, e := prim.Expand(secret, label, n)
	if e != api.OK {
		panic(e)
	}
	return b
}

// keysOf: the keys by the chapter's words.
func keysOf(secret []byte) guard.Keys {
	return guard.Keys{Key: expanded(secret, "key", 16), Iv: expanded(secret, "iv", 12), Hp: expanded(secret, "hp", 16)}
}

// nonceOf: the nonce by the chapter's words.
func nonceOf(iv []byte, number int) []byte {
	n := slices.Clone(iv)
	binary.BigEndian.PutUint64(n[4:], binary.BigEndian.Uint64(n[4:])^uint64(number))
	return n
}

// noKeys: whether keys are what stands beside an error.
func noKeys(k guard.Keys) bool {
	return len(k.Key) == 0 && len(k.Iv) == 0 && len(k.Hp) == 0
}

// sameKeys: whether keys have the same bytes.
func sameKeys(a, b guard.Keys) bool {
	return bytes.Equal(a.Key, b.Key) && bytes.Equal(a.Iv, b.Iv) && bytes.Equal(a.Hp, b.Hp)
}

// P8.1: secrets that were worked out apart from this program.
func TestSecretsOfKnownBytes(t *testing.T) {
	for _, c := range []struct{ cid, client, server string }{
		{"", "8cb9a4bd25c6fdcea1e4fdab16064622", "856a6dedfc07bb15bf550d0e90ae3115"},
		{"0102030405060708", "5915d2ab0dd9340dd4cef80f851d5ff8", "c4242be212f4c0426bfea19b843b2473"},
		{"000102030405060708090a0b0c0d0e0f10111213", "170001f733af3e18de6f0c3cc305b905", "6ec290510dc7b67b958a4c6708e81a10"},
	} {
		client, server, e := guard.Secrets(unhex(c.cid))
		wantHex(t, "the client's secret", client, c.client)
		wantHex(t, "the server's secret", server, c.server)
		if e != api.OK {
			t.Errorf("Secrets of %s: %d", c.cid, e)
		}
	}
}

// P8.1: every length of a cid that is taken, and lengths that are not.
func TestSecretsOfEveryLength(t *testing.T) {
	for n := range 300 {
		cid := run(n, 11, 5)
		client, server, e := guard.Secrets(cid)
		if n > api.MaxCid {
			if len(client) != 0 || len(server) != 0 || e != api.ErrKey {
				t.Errorf("Secrets of %d bytes: %x, %x, %d", n, client, server, e)
			}
			continue
		}
		s := prim.Digest(append([]byte("turnpike initial"), cid...))
		if !bytes.Equal(client, expanded(s[:], "client in", 16)) || !bytes.Equal(server, expanded(s[:], "server in", 16)) || e != api.OK {
			t.Errorf("Secrets of %d bytes: %x, %x, %d", n, client, server, e)
		}
	}
}

// P8.1: keys and next secrets that were worked out apart from this program.
func TestKeysOfKnownBytes(t *testing.T) {
	for _, c := range []struct{ secret, key, iv, hp, next string }{
		{"5915d2ab0dd9340dd4cef80f851d5ff8", "97f0df9854f148369c73ec763afb5e9e", "210495498985ad143405a8d9", "9fc39759e51032f65d09fdc2e0b148ed", "c481d0f9513023cf1c57ce6c85ad6280"},
		{"000102030405060708090a0b0c0d0e0f", "8aac4540ee5507ff9ffc401f09bf97b9", "31d77b6eabd3764d3441de9a", "5b61d9ef3c73258659c38dabf1133f3b", "9c363d952f1addf22bf8a847a29ee127"},
	} {
		k, e := guard.Make(unhex(c.secret))
		wantHex(t, "Key", k.Key, c.key)
		wantHex(t, "Iv", k.Iv, c.iv)
		wantHex(t, "Hp", k.Hp, c.hp)
		next, nextE := guard.Next(unhex(c.secret))
		wantHex(t, "Next", next, c.next)
		if e != api.OK || nextE != api.OK {
			t.Errorf("Make, Next of %s: %d, %d", c.secret, e, nextE)
		}
	}
}

// P8.1, P8.4: a secret has 16 bytes; any other number of them is refused by all that take one.
func TestSecretsSize(t *testing.T) {
	for n := range 300 {
		secret := run(n, 7, 1)
		k, e := guard.Make(secret)
		next, nextE := guard.Next(secret)
		o, openerE := guard.NewOpener(secret)
		if n != 16 {
			if !noKeys(k) || len(next) != 0 || o != nil || e != api.ErrKey || nextE != api.ErrKey || openerE != api.ErrKey {
				t.Errorf("a secret of %d bytes: %v, %d; %x, %d; %v, %d", n, k, e, next, nextE, o, openerE)
			}
			continue
		}
		if !sameKeys(k, keysOf(secret)) || !bytes.Equal(next, expanded(secret, "ku", 16)) || o == nil || e != api.OK || nextE != api.OK || openerE != api.OK {
			t.Errorf("a secret of %d bytes: %v, %d; %x, %d; %v, %d", n, k, e, next, nextE, o, openerE)
		}
	}
}

// P8.1: a chain of next secrets, each by the chapter's words.
func TestNextOfNext(t *testing.T) {
	secret := run(16, 1, 0)
	for i := range 20 {
		next, e := guard.Next(secret)
		if !bytes.Equal(next, expanded(secret, "ku", 16)) || e != api.OK {
			t.Fatalf("Next %d: %x, %d", i, next, e)
		}
		k, e := guard.Make(next)
		if !sameKeys(k, keysOf(next)) || e != api.OK {
			t.Errorf("Make %d: %v, %d", i, k, e)
		}
		secret = next
	}
}

// P8.5: what is handed in stays as it is, its spare room too; what is told shares nothing with it, nor within an answer, nor with another answer.
func TestMemory(t *testing.T) {
	secret := run(16, 1, 0)
	k := keysOf(secret)
	packet, _ := guard.Protect(k, []byte{0x41, 1, 2}, 7, 2, run(50, 1, 1))
	reserved, _ := guard.Protect(k, []byte{0x49, 1, 2}, 7, 2, run(50, 1, 1))
	unprotect := func(l [][]byte) [][]byte {
		_, payload, _, _ := guard.Unprotect(guard.Keys{Key: l[0], Iv: l[1], Hp: l[2]}, l[3], 3, 6)
		return [][]byte{payload}
	}
	open := func(l [][]byte) [][]byte {
		o, _ := guard.NewOpener(l[0])
		_, payload, _ := o.Open(l[1], 3, 6)
		return [][]byte{payload}
	}
	for name, call := range map[string]struct {
		lists [][]byte
		tell  func(l [][]byte) [][]byte
	}{
		"Secrets": {[][]byte{run(8, 1, 1)}, func(l [][]byte) [][]byte {
			client, server, _ := guard.Secrets(l[0])
			return [][]byte{client, server}
		}},
		"Make": {[][]byte{secret}, func(l [][]byte) [][]byte {
			k, _ := guard.Make(l[0])
			return [][]byte{k.Key, k.Iv, k.Hp}
		}},
		"Next": {[][]byte{secret}, func(l [][]byte) [][]byte {
			next, _ := guard.Next(l[0])
			return [][]byte{next}
		}},
		"Protect": {[][]byte{k.Key, k.Iv, k.Hp, {0x41, 1}, run(50, 1, 1)}, func(l [][]byte) [][]byte {
			b, _ := guard.Protect(guard.Keys{Key: l[0], Iv: l[1], Hp: l[2]}, l[3], 5, 2, l[4])
			return [][]byte{b}
		}},
		"Protect refused": {[][]byte{k.Key, k.Iv, k.Hp, {0x41, 1}, {1}}, func(l [][]byte) [][]byte {
			b, _ := guard.Protect(guard.Keys{Key: l[0], Iv: l[1], Hp: l[2]}, l[3], 5, 2, l[4])
			return [][]byte{b}
		}},
		"Unprotect":          {[][]byte{k.Key, k.Iv, k.Hp, packet}, unprotect},
		"Unprotect, no tag":  {[][]byte{k.Key, k.Iv, k.Hp, turn(packet, 300)}, unprotect},
		"Unprotect reserved": {[][]byte{k.Key, k.Iv, k.Hp, reserved}, unprotect},
		"Open":               {[][]byte{secret, packet}, open},
		"Open, no tag":       {[][]byte{secret, turn(packet, 300)}, open},
		"Open reserved":      {[][]byte{secret, reserved}, open},
	} {
		var lists, before [][]byte
		for _, list := range call.lists {
			list = roomy(list)
			lists = append(lists, list)
			before = append(before, slices.Clone(list[:cap(list)]))
		}
		first, second := call.tell(lists), call.tell(lists)
		var want [][]byte
		for _, list := range first {
			want = append(want, slices.Clone(list))
		}
		spoil(second...)
		for i, list := range lists {
			if !bytes.Equal(list[:cap(list)], before[i]) {
				t.Errorf("%s: argument %d was changed, or shares memory with what is told", name, i)
			}
		}
		spoil(lists...)
		for i, list := range first {
			if !bytes.Equal(list, want[i]) {
				t.Errorf("%s: list %d of what is told shares memory", name, i)
			}
			spoil(list) // the lists behind it must stay
		}
	}
}

// P8.2, P8.5: one list may be handed in for all.
func TestOneListForAll(t *testing.T) {
	list := run(16, 9, 0x41)
	apart := func() []byte { return slices.Clone(list) }
	want, wantE := guard.Protect(guard.Keys{Key: apart(), Iv: apart()[:12], Hp: apart()}, apart(), 5, 2, apart())
	got, e := guard.Protect(guard.Keys{Key: list, Iv: list[:12], Hp: list}, list, 5, 2, list)
	if !bytes.Equal(got, want) || e != wantE || e != api.OK || !bytes.Equal(list, run(16, 9, 0x41)) {
		t.Errorf("Protect: %x, %d; want %x, %d", got, e, want, wantE)
	}
}

// P8.5: an opener keeps nothing of the secret's memory, nor of packets and payloads that it has told, before and behind a change of keys.
func TestOpenerKeepsNothing(t *testing.T) {
	secret := roomy(run(16, 1, 0))
	o, _ := guard.NewOpener(secret)
	chain := chainOf(run(16, 1, 0), 3)
	spoil(secret)
	for i, generation := range []int{0, 1, 0, 2, 1, 2} {
		packet := roomy(packetOf(chain, generation, i, "text"))
		before := slices.Clone(packet[:cap(packet)])
		number, payload, e := o.Open(packet, 2, i-1)
		if number != i || string(payload) != "text" || e != api.OK {
			t.Errorf("Open %d: %d, %q, %d", i, number, payload, e)
		}
		spoil(payload)
		if !bytes.Equal(packet[:cap(packet)], before) {
			t.Errorf("Open %d: the packet was changed, or shares memory with the payload", i)
		}
		spoil(packet)
	}
}

// P1: no call panics, whatever it is given.
func TestNoPanic(t *testing.T) {
	lists := [][]byte{nil, {}, {0}, {0x80}, {0xff, 0xff}, make([]byte, 11), make([]byte, 12), make([]byte, 13), make([]byte, 16), run(20, 1, 1), run(21, 1, 0xc0), make([]byte, 36), make([]byte, 255), make([]byte, 256), make([]byte, api.MaxData), make([]byte, api.MaxData+16), make([]byte, api.MaxData+17), make([]byte, 2*api.MaxData+12), make([]byte, 2*api.MaxData+13)}
	numbers := []int{math.MinInt, math.MinInt + 1, -1 << 32, -2, -1, 0, 1, 2, 3, 4, 5, 16, 20, api.MaxData - 5, api.MaxData - 4, api.MaxData - 3, api.MaxData, 1 << 32, api.MaxNum, api.MaxNum + 1, math.MaxInt - 1, math.MaxInt}
	k := keysOf(run(16, 1, 0))
	o, _ := guard.NewOpener(run(16, 1, 0))
	for _, a := range lists {
		guard.Secrets(a)
		guard.Make(a)
		guard.Next(a)
		guard.NewOpener(a)
		for _, b := range lists {
			guard.Protect(guard.Keys{Key: a, Iv: b, Hp: a}, a, 1, 1, b)
			guard.Unprotect(guard.Keys{Key: a, Iv: b, Hp: a}, b, 1, 1)
			guard.Protect(k, a, 1, 4, b)
		}
		for _, at := range numbers {
			for _, n := range numbers {
				if len(a) < 300 {
					guard.Protect(k, a, at, n, a)
				}
				guard.Unprotect(k, a, at, n)
				o.Open(a, at, n)
			}
		}
	}
	if o.Phase() != 0 {
		t.Errorf("Phase: %d", o.Phase())
	}
}

package guard_test

import (
	"bytes"
	"math"
	"math/rand"
	"slices"
	"testing"

	"turnpike/api"
	"turnpike/guard"
)

// chainOf: the keys of a secret, of its next one, and so on, all with the first one's Hp.
func chainOf(secret []byte, n int) []guard.Keys {
	first := keysOf(secret)
	var list []guard.Keys
	for range n {
		k := keysOf(secret)
		list = append(list, guard.Keys{Key: k.Key, Iv: k.Iv, Hp: first.Hp})
		secret = expanded(secret, "ku", 16)
	}
	return list
}

// packetOf: a short packet with a head of two bytes, by the keys of a generation, with its phase.
func packetOf(chain []guard.Keys, generation, number int, text string) []byte {
	return packetBy(chain[generation], []byte{byte(0x40 | generation%2<<2), 7}, number, 1, []byte(text))
}

// wantOpened asks an opener for what a packet holds, and for the phase behind it.
func wantOpened(t *testing.T, o *guard.Opener, packet []byte, number int, text string, phase int) {
	t.Helper()
	if n, p, e := o.Open(packet, 2, number-1); n != number || string(p) != text || e != api.OK || o.Phase() != phase {
		t.Errorf("Open: %d, %q, %d, the phase %d; want %d, %q, the phase %d", n, p, e, o.Phase(), number, text, phase)
	}
}

// wantClosed asks an opener for an error and nothing beside it, and for the phase behind it.
func wantClosed(t *testing.T, o *guard.Opener, packet []byte, at, high int, want api.Errno, phase int) {
	t.Helper()
	if n, p, e := o.Open(packet, at, high); n != 0 || len(p) != 0 || e != want || o.Phase() != phase {
		t.Errorf("Open: %d, %q, %d, the phase %d; want %d, the phase %d", n, p, e, o.Phase(), want, phase)
	}
}

// openerOf: an opener of a secret that is right.
func openerOf(t *testing.T, secret []byte) *guard.Opener {
	t.Helper()
	o, e := guard.NewOpener(secret)
	if e != api.OK || o.Phase() != 0 {
		t.Fatalf("NewOpener: %d", e)
	}
	return o
}

// P8.4: the keys change once, twice, and many times; packets of the former secret open, those of one before it do not, nor those of one behind the next.
func TestOpenerTurns(t *testing.T) {
	chain := chainOf(run(16, 1, 0), 12)
	o := openerOf(t, run(16, 1, 0))
	for now := range 10 {
		phase := now % 2
		wantOpened(t, o, packetOf(chain, now, 10*now, "turns or stays"), 10*now, "turns or stays", phase)
		wantOpened(t, o, packetOf(chain, now, 10*now+1, "stays"), 10*now+1, "stays", phase)
		for other := range chain {
			packet := packetOf(chain, other, 100, "late or early")
			switch other {
			case now, now - 1:
				wantOpened(t, o, packet, 100, "late or early", phase)
			case now + 1: // left for the next round
			default:
				wantClosed(t, o, packet, 2, 99, api.ErrTag, phase)
			}
		}
	}
}

// P8.4: Hp stays the first one's: a packet with the mask of its own secret's Hp is none.
func TestOpenerKeepsHp(t *testing.T) {
	secret := run(16, 1, 0)
	next := expanded(secret, "ku", 16)
	o := openerOf(t, secret)
	chain := chainOf(secret, 2)
	wantOpened(t, o, packetOf(chain, 1, 1, "new"), 1, "new", 1)
	shut := 0
	for number := range 40 {
		packet := packetBy(keysOf(next), []byte{0x44, 7}, number, 1, []byte("new"))
		if _, _, e := o.Open(packet, 2, number-1); e != api.OK {
			shut++
		}
	}
	if shut != 40 {
		t.Errorf("%d of 40 packets with another Hp are refused", shut)
	}
	wantOpened(t, o, packetOf(chain, 1, 2, "new"), 2, "new", 1)
}

// P8.4: ahead of the first change there is no former secret, and a packet whose phase alone is turned is refused.
func TestOpenerWithoutFormer(t *testing.T) {
	chain := chainOf(run(16, 1, 0), 3)
	o := openerOf(t, run(16, 1, 0))
	wantClosed(t, o, packetBy(chain[0], []byte{0x44, 7}, 1, 1, []byte("text")), 2, 0, api.ErrTag, 0)
	wantClosed(t, o, packetBy(chain[1], []byte{0x40, 7}, 1, 1, []byte("text")), 2, 0, api.ErrTag, 0)
	wantClosed(t, o, packetOf(chain, 2, 1, "text"), 2, 0, api.ErrTag, 0)
	wantClosed(t, o, packetBy(guard.Keys{Key: make([]byte, 16), Iv: make([]byte, 12), Hp: chain[0].Hp}, []byte{0x44, 7}, 1, 1, []byte("text")), 2, 0, api.ErrTag, 0)
	wantOpened(t, o, packetOf(chain, 0, 2, "text"), 2, "text", 0)
}

// P8.4: behind a change the present secret opens packets of its own phase alone, the former one those of the other.
func TestOpenerPhasesMatter(t *testing.T) {
	chain := chainOf(run(16, 1, 0), 3)
	o := openerOf(t, run(16, 1, 0))
	wantOpened(t, o, packetOf(chain, 1, 1, "new"), 1, "new", 1)
	wantClosed(t, o, packetBy(chain[0], []byte{0x44, 7}, 2, 1, []byte("text")), 2, 1, api.ErrTag, 1)
	wantClosed(t, o, packetBy(chain[1], []byte{0x40, 7}, 2, 1, []byte("text")), 2, 1, api.ErrTag, 1)
	wantClosed(t, o, packetBy(chain[2], []byte{0x44, 7}, 2, 1, []byte("text")), 2, 1, api.ErrTag, 1)
	wantOpened(t, o, packetOf(chain, 0, 3, "old"), 3, "old", 1)
	wantOpened(t, o, packetOf(chain, 2, 4, "newer"), 4, "newer", 0)
	wantClosed(t, o, packetOf(chain, 0, 5, "old"), 2, 4, api.ErrTag, 0)
}

// P8.4: a packet with reserved bits is refused, of whichever secret it is, and none turns the phase.
func TestOpenerReserved(t *testing.T) {
	chain := chainOf(run(16, 1, 0), 4)
	for _, set := range []byte{0x08, 0x10, 0x18} {
		o := openerOf(t, run(16, 1, 0))
		reserved := func(generation, number int) []byte {
			return packetBy(chain[generation], []byte{byte(0x40|generation%2<<2) | set, 7}, number, 1, []byte("text"))
		}
		wantClosed(t, o, reserved(0, 1), 2, 0, api.ErrReserved, 0)
		wantClosed(t, o, reserved(1, 1), 2, 0, api.ErrReserved, 0)
		wantClosed(t, o, reserved(2, 1), 2, 0, api.ErrTag, 0)
		wantOpened(t, o, packetOf(chain, 0, 2, "old"), 2, "old", 0)
		wantOpened(t, o, packetOf(chain, 1, 3, "new"), 3, "new", 1)
		wantClosed(t, o, reserved(0, 4), 2, 3, api.ErrReserved, 1)
		wantClosed(t, o, reserved(1, 4), 2, 3, api.ErrReserved, 1)
		wantClosed(t, o, reserved(2, 4), 2, 3, api.ErrReserved, 1)
		wantClosed(t, o, reserved(3, 4), 2, 3, api.ErrTag, 1)
		wantOpened(t, o, packetOf(chain, 0, 5, "old"), 5, "old", 1)
		wantOpened(t, o, packetOf(chain, 1, 6, "new"), 6, "new", 1)
		wantOpened(t, o, packetOf(chain, 2, 7, "newer"), 7, "newer", 0)
	}
}

// P8.4: Unprotect's errors in Unprotect's order, and none of them changes what the opener knows.
func TestOpenerErrors(t *testing.T) {
	chain := chainOf(run(16, 1, 0), 3)
	o := openerOf(t, run(16, 1, 0))
	for now := range 2 {
		for _, other := range []int{0, 1, 2} {
			packet := packetOf(chain, other, 9, "some text")
			for _, at := range []int{math.MinInt, -1, 0, len(packet) - 19, len(packet), math.MaxInt} {
				wantClosed(t, o, packet, at, 8, api.ErrShort, now)
				wantClosed(t, o, packet, at, -2, api.ErrShort, now)
			}
			wantClosed(t, o, nil, 1, 8, api.ErrShort, now)
			wantClosed(t, o, packet[:21], 2, 8, api.ErrShort, now)
			wantClosed(t, o, packet[:22], 2, 8, api.ErrTag, now)
			for _, high := range []int{math.MinInt, -2, api.MaxNum + 1, math.MaxInt} {
				wantClosed(t, o, packet, 2, high, api.ErrNumber, now)
				wantClosed(t, o, make([]byte, api.MaxData+19), 2, high, api.ErrNumber, now)
			}
			wantClosed(t, o, make([]byte, api.MaxData+18), 2, 8, api.ErrTag, now)
			wantClosed(t, o, make([]byte, api.MaxData+19), 2, 8, api.ErrHuge, now)
			wantClosed(t, o, make([]byte, api.MaxData+16), api.MaxData-4, 8, api.ErrTag, now)
			wantClosed(t, o, make([]byte, api.MaxData+17), api.MaxData-3, 8, api.ErrHuge, now)
			wantClosed(t, o, packet, 2, 8+1<<20, api.ErrTag, now)
			for bit := range 8 * len(packet) {
				wantClosed(t, o, turn(packet, bit), 2, 8, api.ErrTag, now)
			}
		}
		wantOpened(t, o, packetOf(chain, 0, 20+now, "old"), 20+now, "old", now)
		wantOpened(t, o, packetOf(chain, 1, 30+now, "new"), 30+now, "new", 1)
		wantOpened(t, o, packetOf(chain, 0, 40+now, "old"), 40+now, "old", 1)
	}
}

// P8.4: numbers cut short are understood by high, and a payload may be empty.
func TestOpenerNumbers(t *testing.T) {
	chain := chainOf(run(16, 1, 0), 2)
	o := openerOf(t, run(16, 1, 0))
	packet := packetBy(chain[0], []byte{0x43, 7}, api.MaxNum, 4, nil)
	wantOpened(t, o, packet, api.MaxNum, "", 0)
	wantClosed(t, o, packet, 2, 0, api.ErrTag, 0)
	packet = packetBy(chain[1], []byte{0x45, 7}, 0x12345, 2, []byte("text"))
	wantClosed(t, o, packet, 2, 0, api.ErrTag, 0)
	wantOpened(t, o, packet, 0x12345, "text", 1)
}

// model: an opener by the chapter's words.
type model struct {
	hp, present, former []byte
	phase               int
}

// open: what the chapter says of a packet.
func (m *model) open(packet []byte, at, high int) (int, []byte, api.Errno) {
	try := func(secret []byte) (int, []byte, byte, api.Errno) {
		k := keysOf(secret)
		k.Hp = m.hp
		return guard.Unprotect(k, packet, at, high)
	}
	bits := byte(31)
	if packet[0] >= 0x80 {
		bits = 15
	}
	phase := 0
	if (packet[0]^maskOf(guard.Keys{Hp: m.hp}, packet, at)[0]&bits)&4 == 4 {
		phase = 1
	}
	if phase == m.phase {
		n, p, _, e := try(m.present)
		return n, p, e
	}
	next := expanded(m.present, "ku", 16)
	n, p, _, e := try(next)
	switch {
	case e == api.OK:
		m.former, m.present, m.phase = m.present, next, phase
	case e == api.ErrTag && m.former != nil:
		n, p, _, e = try(m.former)
	}
	return n, p, e
}

// P8.4: long lives of openers by chance, packets of any generation, first byte and damage, against the chapter's words.
func TestOpenerAgainstModel(t *testing.T) {
	rng := rand.New(rand.NewSource(84))
	for range 60 {
		secret := make([]byte, 16)
		rng.Read(secret)
		chain := chainOf(secret, 12)
		o, m := openerOf(t, secret), &model{hp: chain[0].Hp, present: secret}
		now, opened := 0, 0
		for range 120 {
			generation := max(0, min(now+rng.Intn(5)-2, 11))
			first := byte(0x40 | generation%2<<2)
			switch rng.Intn(10) {
			case 0:
				first = byte(rng.Intn(256))
			case 1:
				first |= byte(rng.Intn(32))
			}
			number := rng.Intn(1000)
			packet := packetBy(chain[generation], []byte{first, 7}, number, int(first%4)+1, []byte("payload"))
			if rng.Intn(5) == 0 {
				packet = turn(packet, rng.Intn(8*len(packet)))
			}
			wantN, wantP, wantE := m.open(packet, 2, number-1)
			n, p, e := o.Open(slices.Clone(packet), 2, number-1)
			if n != wantN || !bytes.Equal(p, wantP) || e != wantE || o.Phase() != m.phase {
				t.Fatalf("Open of %x: %d, %x, %d, the phase %d; want %d, %x, %d, %d", packet, n, p, e, o.Phase(), wantN, wantP, wantE, m.phase)
			}
			if e == api.OK {
				now, opened = max(now, generation), opened+1
			}
		}
		if opened < 10 {
			t.Errorf("no more than %d packets were opened", opened)
		}
	}
}

// P8.4: two openers of one secret know nothing of each other.
func TestOpenersApart(t *testing.T) {
	chain := chainOf(run(16, 1, 0), 2)
	a, b := openerOf(t, run(16, 1, 0)), openerOf(t, run(16, 1, 0))
	wantOpened(t, a, packetOf(chain, 1, 1, "new"), 1, "new", 1)
	if b.Phase() != 0 {
		t.Errorf("the other opener's phase: %d", b.Phase())
	}
	wantOpened(t, b, packetOf(chain, 0, 1, "old"), 1, "old", 0)
}

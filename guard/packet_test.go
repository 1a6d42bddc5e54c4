package guard_test

import (
	"bytes"
	"encoding/binary"
	"math"
	"math/rand"
	"slices"
	"testing"

	"turnpike/api"
	"turnpike/guard"
	"turnpike/header"
	"turnpike/prim"
)

// sealedOf: head, number and sealed payload, ahead of the mask.
func sealedOf(k guard.Keys, head []byte, number, width int, payload []byte) []byte {
	digits := binary.BigEndian.AppendUint64(nil, uint64(number))[8-width:]
	bound := slices.Concat(head, digits)
	sealed, e := prim.Seal(k.Key, nonceOf(k.Iv, number), bound, payload)
	if e != api.OK {
		panic(e)
	}
	return slices.Concat(bound, sealed)
}

// maskOf: the mask of a packet whose number stands at a place.
func maskOf(k guard.Keys, packet []byte, at int) [5]byte {
	mask, e := prim.Mask(k.Hp, packet[at+4:at+20])
	if e != api.OK {
		panic(e)
	}
	return mask
}

// packetBy: the packet by the chapter's words.
func packetBy(k guard.Keys, head []byte, number, width int, payload []byte) []byte {
	packet := sealedOf(k, head, number, width, payload)
	mask := maskOf(k, packet, len(head))
	if packet[0] >= 0x80 {
		packet[0] ^= mask[0] % 16
	} else {
		packet[0] ^= mask[0] % 32
	}
	for i := range width {
		packet[len(head)+i] ^= mask[1+i]
	}
	return packet
}

// wantPacket asks Protect for the packet by the chapter's words.
func wantPacket(t *testing.T, k guard.Keys, head []byte, number, width int, payload []byte) []byte {
	t.Helper()
	packet, e := guard.Protect(k, head, number, width, payload)
	if want := packetBy(k, head, number, width, payload); !bytes.Equal(packet, want) || e != api.OK {
		t.Errorf("Protect with a head of %d, %d in %d, a payload of %d bytes: %.60x, %d; want %.60x", len(head), number, width, len(payload), packet, e, want)
	}
	return packet
}

// wantRefused asks Protect for an error and nothing beside it.
func wantRefused(t *testing.T, k guard.Keys, head []byte, number, width int, payload []byte, want api.Errno) {
	t.Helper()
	if packet, e := guard.Protect(k, head, number, width, payload); len(packet) != 0 || e != want {
		t.Errorf("Protect with a head of %d, %d in %d, a payload of %d bytes: %.60x, %d; want %d", len(head), number, width, len(payload), packet, e, want)
	}
}

// wantHeld asks Unprotect for what a packet holds.
func wantHeld(t *testing.T, k guard.Keys, packet []byte, at, high, number int, payload []byte, first byte) {
	t.Helper()
	if n, p, f, e := guard.Unprotect(k, packet, at, high); n != number || !bytes.Equal(p, payload) || f != first || e != api.OK {
		t.Errorf("Unprotect of %d bytes at %d with %d: %d, %.60x, %x, %d; want %d, %.60x, %x", len(packet), at, high, n, p, f, e, number, payload, first)
	}
}

// wantShut asks Unprotect for an error and nothing beside it.
func wantShut(t *testing.T, k guard.Keys, packet []byte, at, high int, want api.Errno) {
	t.Helper()
	if n, p, f, e := guard.Unprotect(k, packet, at, high); n != 0 || len(p) != 0 || f != 0 || e != want {
		t.Errorf("Unprotect of %d bytes at %d with %d: %d, %.60x, %x, %d; want %d", len(packet), at, high, n, p, f, e, want)
	}
}

// someKeys: keys that are right.
func someKeys() guard.Keys {
	return keysOf(run(16, 3, 1))
}

// wrongKeys: keys of which one list has a byte too few, one too many, or none, or stands in another's stead.
func wrongKeys() []guard.Keys {
	k := someKeys()
	var list []guard.Keys
	for _, change := range []func([]byte) []byte{
		func(b []byte) []byte { return b[:len(b)-1] },
		func(b []byte) []byte { return append(slices.Clone(b), 0) },
		func(b []byte) []byte { return nil },
		func(b []byte) []byte { return make([]byte, 256+len(b)) },
	} {
		list = append(list, guard.Keys{Key: change(k.Key), Iv: k.Iv, Hp: k.Hp}, guard.Keys{Key: k.Key, Iv: change(k.Iv), Hp: k.Hp}, guard.Keys{Key: k.Key, Iv: k.Iv, Hp: change(k.Hp)})
	}
	return append(list, guard.Keys{}, guard.Keys{Key: k.Iv, Iv: k.Key, Hp: k.Hp}, guard.Keys{Key: k.Key, Iv: k.Hp, Hp: k.Iv}, guard.Keys{Key: k.Iv, Iv: k.Iv, Hp: k.Iv}, guard.Keys{Key: k.Key, Iv: k.Key, Hp: k.Key})
}

// P8.2, P8.3: packets that were worked out apart from this program.
func TestKnownPackets(t *testing.T) {
	client, _, _ := guard.Secrets(run(8, 1, 1))
	k, _ := guard.Make(client)
	for _, c := range []struct {
		head          string
		number, width int
		payload       []byte
		packet        string
		opens         api.Errno
	}{
		{"e10909", 300, 2, []byte("payload"), "e409097cf4569ff08e487cd1602fd154dda46de7b2afb407e6378eb0", api.OK},
		{"40", 0, 1, []byte("old"), "4edebe59b1ce34e001827cb1574e857637ae807bb3", api.OK},
		{"43010203", api.MaxNum, 4, nil, "4301020349479a3b07672bcb9fbd309447ea67705af6f504", api.OK},
		{"c207", 0x123456789abcdef, 3, []byte("x"), "ca07f7885099274722791504ebe25145bfd9b1d3825f", api.OK},
		{"5e07", 0x123456789abcdef, 1, run(40, 1, 0), "570799e1ebdf905abe9fb492bfa60cb83ff01ef4437c36046d724271793eafc44bc1d6821546cf1489a0af5289cee2a97c078e9f0dc9829b6a7ec3", api.ErrTag},
	} {
		head := unhex(c.head)
		packet, e := guard.Protect(k, head, c.number, c.width, c.payload)
		if wantHex(t, "Protect", packet, c.packet); e != api.OK {
			t.Errorf("Protect: %d", e)
		}
		if c.opens != api.OK {
			wantShut(t, k, packet, len(head), c.number-1, c.opens) // the head tells three bytes, where one was written
			continue
		}
		wantHeld(t, k, packet, len(head), c.number-1, c.number, c.payload, head[0])
	}
}

// P8.2: every first byte, with each width: a head is laid as it is given, whatever it says of the width.
func TestProtectEveryFirstByte(t *testing.T) {
	k := someKeys()
	for first := range 256 {
		for width := 1; width <= 4; width++ {
			wantPacket(t, k, []byte{byte(first), 1, 2}, 0x1122334455667788, width, []byte("text"))
			wantPacket(t, k, []byte{byte(first)}, first, width, run(30, 3, first))
		}
	}
}

// P8.3: every first byte that Protect laid and that tells the width: it comes back, or its reserved bits are told.
func TestUnprotectEveryFirstByte(t *testing.T) {
	k := someKeys()
	for first := range 256 {
		width := first%4 + 1
		for _, head := range [][]byte{{byte(first)}, {byte(first), 7, 8, 9}} {
			packet := wantPacket(t, k, head, 1000, width, []byte("text"))
			set := first & 0x18
			if first >= 0x80 {
				set = first & 0x0c
			}
			if set != 0 {
				wantShut(t, k, packet, len(head), 999, api.ErrReserved)
			} else {
				wantHeld(t, k, packet, len(head), 999, 1000, []byte("text"), byte(first))
			}
			wantShut(t, k, turn(packet, 8*len(packet)-1), len(head), 999, api.ErrTag)
		}
	}
}

// P8.2: the error that is named first, for each payload of few bytes, width and number, and heads and payloads about their edges.
func TestProtectEdges(t *testing.T) {
	k := someKeys()
	widths := []int{math.MinInt, -1, 0, 1, 2, 3, 4, 5, 6, 256, math.MaxInt}
	numbers := []int{math.MinInt, -1, 0, 1, 255, 256, 1<<32 - 1, api.MaxNum - 1, api.MaxNum, api.MaxNum + 1, math.MaxInt}
	for _, h := range []int{0, 1, 2, 30, api.MaxData - 5, api.MaxData - 4, api.MaxData - 3, api.MaxData, api.MaxData + 1} {
		for _, p := range []int{0, 1, 2, 3, 4, 5, 16, api.MaxData - 5, api.MaxData - 4, api.MaxData - 3, api.MaxData, api.MaxData + 1} {
			head, payload := run(h, 1, 0x41), run(p, 3, 3)
			for _, width := range widths {
				for _, number := range numbers {
					if max(h, p) > 30 && max(h, p) <= api.MaxData-4 && number != api.MaxNum {
						continue // each of these takes long, and the number has no part in what they show
					}
					want := api.OK
					switch {
					case h == 0, p < 4 && width < 4-p:
						want = api.ErrShort
					case width < 1, width > 4, number < 0, number > api.MaxNum:
						want = api.ErrNumber
					case h > api.MaxData-4, p > api.MaxData-4:
						want = api.ErrHuge
					}
					if want != api.OK {
						wantRefused(t, k, head, number, width, payload, want)
						continue
					}
					wantPacket(t, k, head, number, width, payload)
				}
			}
		}
	}
}

// P8.2: wrong keys are told ahead of all else, and with all else right.
func TestProtectWrongKeys(t *testing.T) {
	for _, k := range wrongKeys() {
		wantRefused(t, k, []byte{0x40}, 1, 1, []byte("text"), api.ErrKey)
		wantRefused(t, k, nil, -1, 0, nil, api.ErrKey)
		wantRefused(t, k, make([]byte, api.MaxData), 1, 1, make([]byte, api.MaxData), api.ErrKey)
	}
}

// P8.2, P8.3: numbers of which the last bytes alone are written are bound and sealed whole, and understood by what is high.
func TestNumbersCutShort(t *testing.T) {
	k := someKeys()
	for _, number := range []int{0, 1, 127, 128, 255, 256, 65535, 65536, 1<<24 - 1, 1 << 24, 1<<32 - 1, 1 << 32, 0xa82f9b32, 0x123456789abcdef, api.MaxNum - 255, api.MaxNum - 1, api.MaxNum} {
		for width := 1; width <= 4; width++ {
			head := []byte{byte(0xc0 + width - 1), 5}
			packet := wantPacket(t, k, head, number, width, []byte("text"))
			for _, high := range []int{-1, 0, 126, 127, 128, 1 << 20, number - 2, number - 1, number, number + 1, number - 1<<(8*width-1), number + 1<<(8*width-1), api.MaxNum - 1, api.MaxNum} {
				if high < -1 || high > api.MaxNum {
					continue
				}
				if header.Expand(high, number%(1<<(8*width)), width) == number {
					wantHeld(t, k, packet, 2, high, number, []byte("text"), head[0])
				} else {
					wantShut(t, k, packet, 2, high, api.ErrTag)
				}
			}
		}
	}
}

// P8.3: the error that is named first, for at, the bytes from there on, and high, each about its edges.
func TestUnprotectEdges(t *testing.T) {
	k := someKeys()
	ats := []int{math.MinInt, -1, 0, 1, 2, 30, api.MaxData - 5, api.MaxData - 4, api.MaxData - 3, api.MaxData, math.MaxInt}
	for _, at := range ats {
		for _, rest := range []int{-1, 0, 1, 15, 16, 19, 20, 21, 24, api.MaxData + 15, api.MaxData + 16, api.MaxData + 17, api.MaxData + 18} {
			size := rest // of no meaning where at is none
			if at > 0 && at < math.MaxInt {
				size += at
			}
			packet := run(max(size, 0), 7, 0x41)
			for _, high := range []int{math.MinInt, -2, -1, 0, api.MaxNum, api.MaxNum + 1, math.MaxInt} {
				want := api.ErrTag
				switch {
				case at < 1, at == math.MaxInt, rest < 20:
					want = api.ErrShort
				case high < -1, high > api.MaxNum:
					want = api.ErrNumber
				case at > api.MaxData-4, rest > api.MaxData+16:
					want = api.ErrHuge
				}
				wantShut(t, k, packet, at, high, want)
			}
		}
	}
}

// P8.3: packets at the edges that open: 20 and 21 bytes from at on, a head of one byte and of all that are allowed, the greatest payload.
func TestUnprotectAtTheEdges(t *testing.T) {
	k := someKeys()
	for _, h := range []int{1, 2, api.MaxData - 5, api.MaxData - 4} {
		for _, width := range []int{1, 2, 3, 4} {
			for _, p := range []int{4 - width, 5 - width, 100, api.MaxData - 5, api.MaxData - 4} {
				if h > 2 && p > 100 && width < 4 {
					continue
				}
				head := run(h, 1, 0x40+width-1)
				packet := wantPacket(t, k, head, 77, width, run(p, 5, 1))
				wantHeld(t, k, packet, h, 76, 77, run(p, 5, 1), head[0])
			}
		}
	}
}

// P8.3: a packet with MaxData + 16 bytes from at on is read, though Protect makes none so long; one byte more is too much.
func TestUnprotectLongest(t *testing.T) {
	k := someKeys()
	for width := 1; width <= 4; width++ {
		for _, more := range []int{0, 1} {
			head, payload := []byte{byte(0x40 + width - 1)}, run(api.MaxData-width+more, 5, 1)
			packet := packetBy(k, head, 77, width, payload)
			if more == 0 {
				wantHeld(t, k, packet, 1, 76, 77, payload, head[0])
			} else {
				wantShut(t, k, packet, 1, 76, api.ErrHuge)
			}
		}
	}
}

// P8.3: wrong keys are told ahead of all else, and with all else right.
func TestUnprotectWrongKeys(t *testing.T) {
	packet := packetBy(someKeys(), []byte{0x40}, 1, 1, []byte("text"))
	for _, k := range wrongKeys() {
		wantShut(t, k, packet, 1, 0, api.ErrKey)
		wantShut(t, k, nil, 0, -2, api.ErrKey)
		wantShut(t, k, make([]byte, 2*api.MaxData+100), api.MaxData, 0, api.ErrKey)
	}
}

// P8.3: each bit of a packet counts, and each of its keys; so does each byte that is taken off its end, or put there.
func TestUnprotectBits(t *testing.T) {
	k := someKeys()
	for _, head := range [][]byte{{0x42, 1, 2, 3}, {0xc2, 1, 2, 3}} {
		packet := wantPacket(t, k, head, 300, 3, []byte("some text"))
		for bit := range 8 * len(packet) {
			wantShut(t, k, turn(packet, bit), 4, 299, api.ErrTag)
		}
		for bit := range 8 * 16 {
			wantShut(t, guard.Keys{Key: turn(k.Key, bit), Iv: k.Iv, Hp: k.Hp}, packet, 4, 299, api.ErrTag)
			wantShut(t, guard.Keys{Key: k.Key, Iv: turn(k.Iv, bit%96), Hp: k.Hp}, packet, 4, 299, api.ErrTag)
			wantShut(t, guard.Keys{Key: k.Key, Iv: k.Iv, Hp: turn(k.Hp, bit)}, packet, 4, 299, api.ErrTag)
		}
		for cut := 4 + 20; cut < len(packet); cut++ {
			wantShut(t, k, packet[:cut], 4, 299, api.ErrTag)
		}
		wantShut(t, k, append(slices.Clone(packet), 0), 4, 299, api.ErrTag)
		wantShut(t, k, packet, 3, 299, api.ErrTag)
		wantShut(t, k, packet, 5, 299, api.ErrTag)
	}
}

// P8.3: reserved bits are told only of a packet that opens, and only those of its kind are.
func TestUnprotectReserved(t *testing.T) {
	k := someKeys()
	for _, c := range []struct {
		first byte
		want  api.Errno
	}{
		{0x40, api.OK}, {0x44, api.OK}, {0x60, api.OK}, {0x00, api.OK}, {0x48, api.ErrReserved}, {0x50, api.ErrReserved}, {0x58, api.ErrReserved}, {0x5c, api.ErrReserved},
		{0xc0, api.OK}, {0xd0, api.OK}, {0xf0, api.OK}, {0x80, api.OK}, {0xc4, api.ErrReserved}, {0xc8, api.ErrReserved}, {0xcc, api.ErrReserved}, {0xdc, api.ErrReserved},
	} {
		packet := wantPacket(t, k, []byte{c.first}, 9, 1, []byte("text"))
		if c.want == api.OK {
			wantHeld(t, k, packet, 1, 8, 9, []byte("text"), c.first)
		} else {
			wantShut(t, k, packet, 1, 8, c.want)
		}
		wantShut(t, k, turn(packet, 8*len(packet)-1), 1, 8, api.ErrTag)
	}
}

// P8.2, P8.3: nil and empty payloads are one, and what was protected is unprotected, for many packets by chance.
func TestManyPackets(t *testing.T) {
	rng := rand.New(rand.NewSource(82))
	for range 5000 {
		secret := make([]byte, 16)
		rng.Read(secret)
		k, _ := guard.Make(secret)
		width := 1 + rng.Intn(4)
		head, payload := make([]byte, 1+rng.Intn(40)), make([]byte, 4-width+rng.Intn(60))
		rng.Read(head)
		rng.Read(payload)
		head[0] = head[0]&^0x1f | byte(width-1)
		number := rng.Intn(api.MaxNum+1) >> rng.Intn(62)
		packet := wantPacket(t, k, head, number, width, payload)
		wantHeld(t, k, packet, len(head), number-1, number, payload, head[0])
		wantShut(t, k, turn(packet, rng.Intn(8*len(packet))), len(head), number-1, api.ErrTag)
	}
	k := someKeys()
	if a, b := wantPacket(t, k, []byte{0x43}, 1, 4, nil), wantPacket(t, k, []byte{0x43}, 1, 4, []byte{}); !bytes.Equal(a, b) {
		t.Errorf("a nil payload: %x; an empty one: %x", a, b)
	}
}

package prim_test

import (
	"bytes"
	"math/rand"
	"slices"
	"testing"

	"turnpike/api"
	"turnpike/prim"
)

// sealedOf: what Seal answers, by the chapter's words.
func sealedOf(key, nonce, ad, plain []byte) []byte {
	both := slices.Concat(one(len(key)), key, one(len(nonce)), nonce)
	var stream []byte
	for i := 0; len(stream) < len(plain); i++ {
		stream = append(stream, digestOf(one(1), both, four(i))...)
	}
	hidden := make([]byte, len(plain))
	for i := range plain {
		hidden[i] = plain[i] ^ stream[i]
	}
	return append(hidden, digestOf(one(2), both, four(len(ad)), ad, hidden)...)
}

// wantSealed asks Seal for the bytes by the chapter's words, and Open for the plain ones again.
func wantSealed(t *testing.T, key, nonce, ad, plain []byte) {
	t.Helper()
	sealed, e := prim.Seal(key, nonce, ad, plain)
	if want := sealedOf(key, nonce, ad, plain); !bytes.Equal(sealed, want) || e != api.OK {
		t.Errorf("Seal with %d, %d, %d, %d bytes: %.60x, %d; want %.60x", len(key), len(nonce), len(ad), len(plain), sealed, e, want)
	}
	if got, e := prim.Open(key, nonce, ad, sealed); !bytes.Equal(got, plain) || e != api.OK {
		t.Errorf("Open with %d, %d, %d bytes, of %d: %.60x, %d", len(key), len(nonce), len(ad), len(plain), got, e)
	}
}

// wantUnsealed asks Seal for an error and nothing beside it.
func wantUnsealed(t *testing.T, key, nonce, ad, plain []byte, e api.Errno) {
	t.Helper()
	if b, got := prim.Seal(key, nonce, ad, plain); len(b) != 0 || got != e {
		t.Errorf("Seal with %d, %d, %d, %d bytes: %.60x, %d; want %d", len(key), len(nonce), len(ad), len(plain), b, got, e)
	}
}

// wantShut asks Open for an error and nothing beside it.
func wantShut(t *testing.T, key, nonce, ad, sealed []byte, e api.Errno) {
	t.Helper()
	if b, got := prim.Open(key, nonce, ad, sealed); len(b) != 0 || got != e {
		t.Errorf("Open with %d, %d, %d, %d bytes: %.60x, %d; want %d", len(key), len(nonce), len(ad), len(sealed), b, got, e)
	}
}

// P7.3: sealed bytes that were worked out apart from this program.
func TestSealOfKnownBytes(t *testing.T) {
	sealed, _ := prim.Seal([]byte("key"), []byte("nonce"), []byte("ad"), []byte("twenty bytes of text"))
	wantHex(t, "Seal", sealed, "8c07e27e39b6b8606028605d517503ff39d4115292959ec7260ecf4ca015bb987bdb23c8")
	sealed, _ = prim.Seal(nil, nil, nil, nil)
	wantHex(t, "Seal of nothing", sealed, "427908093d3c16aa2a2528f982eafa60")
	sealed, e := prim.Seal(run(255, 7, 3), run(255, 5, 1), run(api.MaxData, 3, 2), run(api.MaxData, 11, 9))
	if len(sealed) != api.MaxData+16 || e != api.OK {
		t.Fatalf("Seal of the most: %d bytes, %d", len(sealed), e)
	}
	wantHex(t, "Seal's first bytes", sealed[:8], "f9a2f7e9ec192c12")
	wantHex(t, "Seal's bytes where the number's second byte begins", sealed[4092:4100], "35e25ae4b8fb041b")
	wantHex(t, "Seal's last bytes", sealed[api.MaxData-8:], "08a85aa9ec068fdaa01fb67a61b7309a867a5b70d18cf54e")
}

// P7.3, P7.4: plain bytes of every length about the stream's digests, to MaxData.
func TestSealEveryLength(t *testing.T) {
	key, nonce, ad := run(16, 3, 1), run(12, 5, 2), run(9, 7, 3)
	lengths := []int{4079, 4080, 4081, 4095, 4096, 4097, 4111, 4112, 4113, 8192, api.MaxData - 17, api.MaxData - 16, api.MaxData - 15, api.MaxData - 1, api.MaxData}
	for n := range 200 {
		lengths = append(lengths, n)
	}
	for _, n := range lengths {
		wantSealed(t, key, nonce, ad, run(n, 11, 4))
	}
}

// P7.3, P7.4: key, nonce and ad of every length about their edges; ErrKey is told ahead of ErrHuge, and that ahead of ErrShort.
func TestSealEdges(t *testing.T) {
	short := []int{0, 1, 16, 254, 255, 256, 257, 511, 512, 70000}
	long := []int{0, 1, 15, 16, 17, 255, 256, 257, api.MaxData - 1, api.MaxData, api.MaxData + 1, api.MaxData + 2, api.MaxData + 16, api.MaxData + 17, 70000}
	for _, k := range short {
		for _, n := range short {
			for _, a := range long {
				key, nonce, ad, plain := run(k, 3, 1), run(n, 5, 2), run(a, 7, 3), run(20, 9, 4)
				if k <= 255 && n <= 255 && a <= api.MaxData {
					wantSealed(t, key, nonce, ad, plain)
					wantShut(t, key, nonce, ad, plain[:15], api.ErrShort)
					continue
				}
				e := api.ErrHuge
				if k > 255 || n > 255 {
					e = api.ErrKey
				}
				wantUnsealed(t, key, nonce, ad, plain, e)
				for _, size := range []int{0, 15, 16, 20} {
					wantShut(t, key, nonce, ad, plain[:size], e)
				}
			}
		}
	}
}

// P7.3: plain bytes of MaxData and one more; told behind ErrKey.
func TestSealTooMuch(t *testing.T) {
	for _, n := range []int{api.MaxData + 1, api.MaxData + 2, api.MaxData + 16, 2 * api.MaxData, 70000} {
		plain := run(n, 3, 1)
		wantUnsealed(t, nil, nil, nil, plain, api.ErrHuge)
		wantUnsealed(t, []byte{1}, []byte{2}, plain, plain, api.ErrHuge)
		wantUnsealed(t, make([]byte, 256), nil, nil, plain, api.ErrKey)
		wantUnsealed(t, nil, make([]byte, 256), plain, plain, api.ErrKey)
	}
}

// P7.4: sealed bytes of 0 to 17, of MaxData + 16 and of one more.
func TestOpenSizes(t *testing.T) {
	key, nonce, ad := []byte("key"), []byte("nonce"), []byte("ad")
	for n := range 16 {
		wantShut(t, key, nonce, ad, sealedOf(key, nonce, ad, nil)[:n], api.ErrShort)
		wantShut(t, make([]byte, 256), nonce, ad, make([]byte, n), api.ErrKey)
		wantShut(t, key, nonce, make([]byte, api.MaxData+1), make([]byte, n), api.ErrHuge)
	}
	wantShut(t, key, nonce, ad, make([]byte, 16), api.ErrTag)
	wantShut(t, key, nonce, ad, make([]byte, 17), api.ErrTag)
	wantShut(t, key, nonce, ad, make([]byte, api.MaxData+16), api.ErrTag)
	for _, n := range []int{0, 1, api.MaxData - 1, api.MaxData} {
		plain := run(n, 3, 5)
		if got, e := prim.Open(key, nonce, ad, sealedOf(key, nonce, ad, plain)); !bytes.Equal(got, plain) || e != api.OK {
			t.Errorf("Open of %d bytes and a tag: %.40x, %d", n, got, e)
		}
	}
	for _, n := range []int{api.MaxData + 1, api.MaxData + 2, 3 * api.MaxData} {
		sealed := sealedOf(key, nonce, ad, run(n, 3, 5))
		wantShut(t, key, nonce, ad, sealed, api.ErrHuge)
		wantShut(t, key, make([]byte, 256), ad, sealed, api.ErrKey)
	}
}

// P7.4: each bit that is turned, of what is sealed or of what it was sealed with, and each byte that is lost or added, is seen by the tag.
func TestOpenSeesChanges(t *testing.T) {
	given := [][]byte{[]byte("key"), []byte("nonce"), []byte("ad"), sealedOf([]byte("key"), []byte("nonce"), []byte("ad"), run(40, 3, 5))}
	for i := range given {
		changed := slices.Clone(given)
		for bit := range 8 * len(given[i]) {
			changed[i] = turn(given[i], bit)
			wantShut(t, changed[0], changed[1], changed[2], changed[3], api.ErrTag)
		}
		changed[i] = given[i][:len(given[i])-1]
		wantShut(t, changed[0], changed[1], changed[2], changed[3], api.ErrTag)
		changed[i] = append(slices.Clone(given[i]), 0)
		wantShut(t, changed[0], changed[1], changed[2], changed[3], api.ErrTag)
	}
}

// P7.3, P7.4: bytes that move from one part to the next are seen.
func TestOpenKeepsApart(t *testing.T) {
	text := []byte("ABCDEFGHIJ")
	for cut := range 10 {
		sealed, _ := prim.Seal(text[:cut], text[cut:], text, text)
		for other := range 10 {
			if other != cut {
				wantShut(t, text[:other], text[other:], text, sealed, api.ErrTag)
			}
		}
		// the first byte of what plain became, moved into ad, has the same bytes in the same order under the tag
		wantShut(t, text[:cut], text[cut:], append(slices.Clone(text), sealed[0]), sealed[1:], api.ErrTag)
	}
}

// P7.3, P7.4: many calls against the chapter's words.
func TestSealByChance(t *testing.T) {
	rng := rand.New(rand.NewSource(73))
	draw := func(most int) []byte {
		b := make([]byte, rng.Intn(most+1))
		rng.Read(b)
		return b
	}
	for range 3000 {
		key, nonce, ad, plain := draw(255), draw(255), draw(300), draw(300)
		wantSealed(t, key, nonce, ad, plain)
		sealed := sealedOf(key, nonce, ad, plain)
		wantShut(t, key, nonce, ad, turn(sealed, rng.Intn(8*len(sealed))), api.ErrTag)
	}
}

package route_test

import (
	"fmt"
	"math"
	"math/rand"
	"slices"
	"testing"

	"turnpike/api"
	"turnpike/route"
)

const addrMost = 1<<32 - 1

// wantProof asks for the id of a token, or for an error and nothing beside it.
func wantProof(t *testing.T, what string, secret []byte, addr, now int, token, want []byte, wantE api.Errno) {
	t.Helper()
	id, e := route.Proof(secret, addr, now, token)
	wantBytes(t, what, id, e, want, wantE)
}

// wantNoProof asks a secret that is right whether a token proves nothing to the address 7 at any time.
func wantNoProof(t *testing.T, what string, token []byte) {
	t.Helper()
	for _, now := range []int{math.MinInt, -1, 0, 100, math.MaxInt} {
		wantProof(t, what, []byte(text), 7, now, token, nil, api.ErrToken)
	}
}

// P13.2: the example; tokens that were worked out apart from this program.
func TestTokensOfKnownBytes(t *testing.T) {
	for _, c := range []struct {
		secret      []byte
		addr, until int
		id          []byte
		digits      string
	}{
		{[]byte(text), 7, 100, unhex(t, "a7b55ba17f8ae2db"), "0ada4303e570d557f9d54e5ac121a7f02a9d42d7651ce87b0a122543a0873322f2aa59dc789fca02be088b3f"},
		{[]byte(text), 0, 0, nil, "62de56b7ed8935e438245b48a9bb04db85a31beb3a63f29d05e01594bd4146e24ae0d229"},
		{run(16, 1, 0), addrMost, api.MaxNum, run(20, 1, 1), "be318ab7df6e808e900f5f1984a82e02167cf2d3700ffacd08d9a6d14d431a42ff47ce42a4574ee0570f4fef3aa4c49f869e79405b54da1d"},
		{run(16, 1, 0), 0x01020304, 0x05060708090a0b, []byte{0xaa}, "d0d25d83c4ac3ac890dba60ff11a4f5ce6c846cf8a11f8a7e9fa990a7ee7b03e6309b88952"},
	} {
		token, e := route.Token(c.secret, c.addr, c.until, c.id)
		wantBytes(t, "Token", token, e, unhex(t, c.digits), api.OK)
		wantProof(t, "Proof", c.secret, c.addr, c.until, token, c.id, api.OK)
	}
}

// P13.2: addresses, times and ids at their edges and past them, in every mixture: the errors in their order, and beside them nothing.
func TestTokenEdges(t *testing.T) {
	addrs := []int{math.MinInt, -1 << 32, -1, 0, 1, 255, 256, 1 << 16, 1 << 31, addrMost - 1, addrMost, addrMost + 1, addrMost + 2, 1 << 40, math.MaxInt}
	untils := []int{math.MinInt, -1 << 62, -1, 0, 1, 255, 1 << 32, 1 << 40, api.MaxNum - 1, api.MaxNum, api.MaxNum + 1, math.MaxInt}
	for _, addr := range addrs {
		for _, until := range untils {
			for size := range api.MaxCid + 3 {
				id := run(size, 5, 9)
				token, e := route.Token([]byte(text), addr, until, id)
				what := fmt.Sprintf("Token(%d, %d, %d bytes)", addr, until, size)
				switch {
				case addr < 0 || addr > addrMost:
					wantBytes(t, what, token, e, nil, api.ErrAddr)
				case until < 0 || until > api.MaxNum:
					wantBytes(t, what, token, e, nil, api.ErrNumber)
				case size > api.MaxCid:
					wantBytes(t, what, token, e, nil, api.ErrCid)
				default:
					wantBytes(t, what, token, e, tokenOf([]byte(text), addr, uint64(until), id), api.OK)
					wantProof(t, "Proof of "+what, []byte(text), addr, until, token, id, api.OK)
				}
			}
		}
	}
}

// P13.2: a token at, ahead of and behind its until.
func TestProofInTime(t *testing.T) {
	id := run(8, 1, 1)
	for _, until := range []int{0, 1, 100, 1 << 40, api.MaxNum} {
		token := tokenOf([]byte(text), 7, uint64(until), id)
		for _, now := range []int{math.MinInt, -1 << 40, -1, 0, 1, 99, 100, 101, 1 << 40, 1<<40 + 1, api.MaxNum, api.MaxNum + 1, math.MaxInt, until - 1, until, until + 1} {
			if now > until {
				wantProof(t, fmt.Sprintf("Proof at %d, until %d", now, until), []byte(text), 7, now, token, nil, api.ErrToken)
			} else {
				wantProof(t, fmt.Sprintf("Proof at %d, until %d", now, until), []byte(text), 7, now, token, id, api.OK)
			}
		}
	}
}

// P13.2: what has the form of a token is one, also with a time that Token would refuse: eight bytes are a number of eight bytes.
func TestProofOfLateTimes(t *testing.T) {
	id := run(8, 1, 1)
	for _, until := range []uint64{api.MaxNum + 1, 1<<63 - 1, 1 << 63, 1<<63 + 5, math.MaxUint64} {
		token := tokenOf([]byte(text), 7, until, id)
		for _, now := range []int{-1, 0, 1, api.MaxNum, api.MaxNum + 1} {
			wantProof(t, fmt.Sprintf("Proof at %d, until %d", now, until), []byte(text), 7, now, token, id, api.OK)
		}
	}
	wantProof(t, "Proof too late", []byte(text), 7, math.MaxInt, tokenOf([]byte(text), 7, 1<<63-2, id), nil, api.ErrToken)
	wantProof(t, "Proof just in time", []byte(text), 7, math.MaxInt, tokenOf([]byte(text), 7, 1<<63-1, id), id, api.OK)
}

// P13.2: for another address, and by another secret.
func TestProofForOthers(t *testing.T) {
	id := run(8, 1, 1)
	token := tokenOf([]byte(text), 7, 100, id)
	for _, addr := range []int{0, 1, 6, 8, 7 + 256, 7 << 8, 7 << 24, addrMost} {
		wantProof(t, fmt.Sprint("Proof for ", addr), []byte(text), addr, 0, token, nil, api.ErrToken)
	}
	for i := range 16 {
		other := []byte(text)
		other[i] ^= 1
		wantProof(t, fmt.Sprint("Proof by a secret with another byte at ", i), other, 7, 0, token, nil, api.ErrToken)
	}
	wantProof(t, "Proof for the same", []byte(text), 7, 0, token, id, api.OK)
}

// P13.2: cut at every length, at either end, with more behind it, and with any one byte changed.
func TestProofOfSpoiledTokens(t *testing.T) {
	for size := range api.MaxCid + 1 {
		token := tokenOf([]byte(text), 7, 100, run(size, 3, 5))
		for i := range token {
			wantNoProof(t, fmt.Sprintf("Proof cut to %d of %d", i, len(token)), token[:i])
			wantNoProof(t, fmt.Sprintf("Proof from %d of %d", i+1, len(token)), token[i+1:])
			for _, turn := range []byte{1, 0x80, 0xff} {
				changed := slices.Clone(token)
				changed[i] ^= turn
				wantNoProof(t, fmt.Sprintf("Proof changed at %d of %d", i, len(token)), changed)
			}
		}
		wantNoProof(t, "Proof with a byte behind it", append(slices.Clone(token), 0))
		wantNoProof(t, "Proof with a byte ahead of it", append([]byte{0}, token...))
	}
	token := tokenOf([]byte(text), 7, 100, run(8, 3, 5))
	for i := range token {
		for turn := 1; turn < 256; turn++ {
			changed := slices.Clone(token)
			changed[i] ^= byte(turn)
			wantNoProof(t, fmt.Sprintf("Proof changed at %d by %x", i, turn), changed)
		}
	}
}

// P13.2: sealed by the right key, and yet none: first bytes that are others, too few bytes sealed, or too many.
func TestProofOfRightSealAndWrongInside(t *testing.T) {
	id := run(8, 1, 1)
	inside := slices.Concat(eight(100), id)
	right := nonceOf(7, 100, id)
	wantProof(t, "Proof of the right inside", []byte(text), 7, 100, boxOf([]byte(text), 7, right, inside), id, api.OK)
	for i := range 12 {
		nonce := slices.Clone(right)
		nonce[i] ^= 1
		wantNoProof(t, fmt.Sprint("Proof with another first byte at ", i), boxOf([]byte(text), 7, nonce, inside))
	}
	wantNoProof(t, "Proof with the first bytes of another address", boxOf([]byte(text), 7, nonceOf(8, 100, id), inside))
	wantNoProof(t, "Proof with the first bytes of another time", boxOf([]byte(text), 7, nonceOf(7, 101, id), inside))
	wantNoProof(t, "Proof with the first bytes of another id", boxOf([]byte(text), 7, nonceOf(7, 100, nil), inside))
	for size := range 60 {
		bytes := run(size, 7, 0)
		nonce := digestOf([]byte("nonce"), four(7), bytes)[:12]
		what := fmt.Sprint("Proof with bytes sealed: ", size)
		if size < 8 || size > 8+api.MaxCid {
			wantNoProof(t, what, boxOf([]byte(text), 7, nonce, bytes))
		} else {
			wantProof(t, what, []byte(text), 7, 0, boxOf([]byte(text), 7, nonce, bytes), bytes[8:], api.OK)
		}
	}
}

// P13.2, P1: any bytes at all, also more than layer 7 opens.
func TestProofOfAnyBytes(t *testing.T) {
	rng := rand.New(rand.NewSource(133))
	for range 20000 {
		token := make([]byte, rng.Intn(80))
		rng.Read(token)
		wantProof(t, "Proof of any bytes", []byte(text), rng.Intn(1<<32), rng.Int(), token, nil, api.ErrToken)
	}
	for _, n := range []int{0, 11, 12, 13, 27, 28, 35, 36, 56, 57, 255, 256, 12 + api.MaxData + 15, 12 + api.MaxData + 16, 12 + api.MaxData + 17, 1 << 20} {
		wantNoProof(t, fmt.Sprint("Proof of bytes ", n), make([]byte, n))
	}
	wantNoProof(t, "Proof of nil", nil)
}

// P13.1, P13.2: the order in which errors are found.
func TestTokenErrorsInOrder(t *testing.T) {
	right := tokenOf([]byte(text), 7, 100, nil)
	for _, addr := range []int{math.MinInt, -1, 0, 7, addrMost, addrMost + 1, math.MaxInt} {
		for _, s := range wrongSecrets() {
			for _, until := range []int{-1, 0, api.MaxNum + 1} {
				for _, size := range []int{0, api.MaxCid, api.MaxCid + 1} {
					token, e := route.Token(s, addr, until, run(size, 1, 0))
					wantBytes(t, "Token", token, e, nil, api.ErrKey)
				}
			}
			wantProof(t, "Proof", s, addr, 0, right, nil, api.ErrKey)
			wantProof(t, "Proof", s, addr, 101, nil, nil, api.ErrKey)
		}
		if addr < 0 || addr > addrMost {
			wantProof(t, "Proof", []byte(text), addr, 0, right, nil, api.ErrAddr)
			wantProof(t, "Proof", []byte(text), addr, 101, nil, nil, api.ErrAddr)
		}
	}
}

// P13.2: tokens go there and back, whatever they hold.
func TestProofUndoesToken(t *testing.T) {
	rng := rand.New(rand.NewSource(134))
	for range 10000 {
		secret, id := make([]byte, 16), make([]byte, rng.Intn(api.MaxCid+1))
		rng.Read(secret)
		rng.Read(id)
		addr, until := rng.Intn(1<<32), rng.Intn(api.MaxNum+1)>>rng.Intn(62)
		token, e := route.Token(secret, addr, until, id)
		wantBytes(t, "Token", token, e, tokenOf(secret, addr, uint64(until), id), api.OK)
		wantProof(t, "Proof", secret, addr, rng.Intn(until+1), token, id, api.OK)
		wantProof(t, "Proof", secret, addr, until+1, token, nil, api.ErrToken)
		wantProof(t, "Proof", secret, addr^1<<rng.Intn(32), until, token, nil, api.ErrToken)
	}
}

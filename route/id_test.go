package route_test

import (
	"fmt"
	"math"
	"math/rand"
	"testing"

	"turnpike/api"
	"turnpike/route"
)

const serialMost = 1<<56 - 1

// wrongSecrets: none of 16 bytes.
func wrongSecrets() [][]byte {
	return [][]byte{nil, {}, run(1, 1, 0), run(15, 1, 0), run(17, 1, 0), run(32, 1, 0), run(300, 1, 0)}
}

// wantRead asks what an id tells.
func wantRead(t *testing.T, secret, id []byte, worker, serial int, want api.Errno) {
	t.Helper()
	if w, n, e := route.Read(secret, id); w != worker || n != serial || e != want {
		t.Errorf("Read(%x, %x): %d, %d, %d; want %d, %d, %d", secret, id, w, n, e, worker, serial, want)
	}
}

// P13.1: the example; ids and reset tokens that were worked out apart from this program.
func TestIDsOfKnownBytes(t *testing.T) {
	for _, c := range []struct {
		secret         []byte
		worker, serial int
		digits         string
	}{
		{[]byte(text), 3, 77, "a7b55ba17f8ae2db"},
		{[]byte(text), 0, 0, "a4b55ba17f8ae296"},
		{[]byte(text), 255, serialMost, "5b4aa45e80751d69"},
		{run(16, 1, 0), 1, 0x010203040506ff, "36c28177c0e08a8f"},
	} {
		id, e := route.Make(c.secret, c.worker, c.serial)
		wantBytes(t, "Make", id, e, unhex(t, c.digits), api.OK)
		wantRead(t, c.secret, id, c.worker, c.serial, api.OK)
	}
	for _, c := range []struct {
		secret, id []byte
		digits     string
	}{
		{[]byte(text), nil, "0f51e0ec92846438bea20968f9ba6fa2"},
		{[]byte(text), unhex(t, "a7b55ba17f8ae2db"), "23cb5b0e632bd5e2b150937f609c4336"},
		{run(16, 1, 0), run(20, 1, 1), "531b375ecfc495537d91cc70388304e3"},
	} {
		token, e := route.Reset(c.secret, c.id)
		wantBytes(t, "Reset", token, e, unhex(t, c.digits), api.OK)
	}
}

// P13.1: workers and serial numbers at their edges and past them; beside an error there is nothing.
func TestMakeEdges(t *testing.T) {
	workers := []int{math.MinInt, -256, -1, 0, 1, 127, 128, 254, 255, 256, 257, 512, 1 << 32, math.MaxInt}
	serials := []int{math.MinInt, -1 << 56, -1, 0, 1, 255, 256, 65535, 65536, 1 << 32, 1 << 48, serialMost - 1, serialMost, serialMost + 1, serialMost + 2, 1 << 57, 1 << 62, math.MaxInt}
	for _, w := range workers {
		for _, n := range serials {
			id, e := route.Make([]byte(text), w, n)
			what := fmt.Sprintf("Make(%d, %d)", w, n)
			if w < 0 || w > 255 || n < 0 || n > serialMost {
				wantBytes(t, what, id, e, nil, api.ErrNumber)
				continue
			}
			wantBytes(t, what, id, e, idOf([]byte(text), w, n), api.OK)
			wantRead(t, []byte(text), id, w, n, api.OK)
		}
	}
}

// P13.1: Read tells what Make was told, by any secret.
func TestReadUndoesMake(t *testing.T) {
	rng := rand.New(rand.NewSource(131))
	for range 20000 {
		secret := make([]byte, 16)
		rng.Read(secret)
		w, n := rng.Intn(256), rng.Intn(1<<56)>>rng.Intn(56)
		id, e := route.Make(secret, w, n)
		wantBytes(t, "Make", id, e, idOf(secret, w, n), api.OK)
		wantRead(t, secret, id, w, n, api.OK)
	}
}

// P13.1: any eight bytes are the id of some worker and serial number.
func TestMakeUndoesRead(t *testing.T) {
	rng := rand.New(rand.NewSource(132))
	for range 20000 {
		secret, want := make([]byte, 16), make([]byte, 8)
		rng.Read(secret)
		rng.Read(want)
		w, n, e := route.Read(secret, want)
		if e != api.OK {
			t.Fatalf("Read: %d", e)
		}
		id, e := route.Make(secret, w, n)
		wantBytes(t, "Make of what Read told", id, e, want, api.OK)
	}
}

// P13.1: ids of two workers, of two serial numbers, or of two secrets differ.
func TestIDsDiffer(t *testing.T) {
	seen := map[string]string{}
	for s := range 3 {
		for w := range 256 {
			for _, n := range []int{0, 1, 2, 255, 256, 1 << 16, 1 << 24, 1 << 32, 1 << 40, 1 << 48, 1 << 55, serialMost} {
				id, _ := route.Make(run(16, 1, s), w, n)
				what := fmt.Sprintf("secret %d, worker %d, serial number %d", s, w, n)
				if other, there := seen[string(id)]; there || len(id) != 8 {
					t.Fatalf("%x is the id of %s and of %s", id, what, other)
				}
				seen[string(id)] = what
			}
		}
	}
}

// P13.1: Read of any number of bytes but eight.
func TestReadOfOtherSizes(t *testing.T) {
	for _, n := range []int{0, 1, 7, 9, 16, 20, 21, 1000} {
		wantRead(t, []byte(text), run(n, 1, 0), 0, 0, api.ErrCid)
	}
	wantRead(t, []byte(text), nil, 0, 0, api.ErrCid)
	id := idOf([]byte(text), 3, 77)
	wantRead(t, []byte(text), id[:7], 0, 0, api.ErrCid)
	wantRead(t, []byte(text), append(id[:8:8], 0), 0, 0, api.ErrCid)
}

// P13.1: reset tokens of ids of every length up to MaxCid and past it.
func TestResetEdges(t *testing.T) {
	for n := range api.MaxCid + 4 {
		id := run(n, 7, 3)
		token, e := route.Reset([]byte(text), id)
		if n > api.MaxCid {
			wantBytes(t, fmt.Sprint("Reset of ", n), token, e, nil, api.ErrCid)
			continue
		}
		wantBytes(t, fmt.Sprint("Reset of ", n), token, e, resetOf([]byte(text), id), api.OK)
	}
	token, e := route.Reset([]byte(text), run(5000, 1, 1))
	wantBytes(t, "Reset of 5000", token, e, nil, api.ErrCid)
}

// P13.1: reset tokens of two ids, or of two secrets, differ.
func TestResetsDiffer(t *testing.T) {
	seen := map[string]int{}
	count := 0
	for s := range 5 {
		for n := range api.MaxCid + 1 {
			for step := range 4 {
				if n == 0 && step > 0 {
					continue
				}
				token, _ := route.Reset(run(16, 3, s), run(n, 1, step))
				seen[string(token)]++
				count++
			}
		}
	}
	if len(seen) != count {
		t.Errorf("%d reset tokens, %d of them different", count, len(seen))
	}
}

// P13.1: a secret that has not 16 bytes is found ahead of all else.
func TestSecretsOfOtherSizes(t *testing.T) {
	for _, s := range wrongSecrets() {
		for _, n := range []int{-1, 0, 256, serialMost + 1} {
			id, e := route.Make(s, n, n)
			wantBytes(t, "Make", id, e, nil, api.ErrKey)
		}
		for _, n := range []int{0, 7, 8, 9, 20, 21} {
			wantRead(t, s, run(n, 1, 0), 0, 0, api.ErrKey)
			token, e := route.Reset(s, run(n, 1, 0))
			wantBytes(t, "Reset", token, e, nil, api.ErrKey)
		}
	}
}

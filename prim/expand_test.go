package prim_test

import (
	"bytes"
	"math"
	"strings"
	"testing"

	"turnpike/api"
	"turnpike/prim"
)

// expanded: n bytes by the chapter's words.
func expanded(secret []byte, label string, n int) []byte {
	var all []byte
	for i := range 64 {
		all = append(all, digestOf(one(len(secret)), secret, one(len(label)), []byte(label), one(i))...)
	}
	return all[:n]
}

// wantExpanded asks Expand for bytes, or for an error and nothing beside it.
func wantExpanded(t *testing.T, secret []byte, label string, n int, want []byte, wantE api.Errno) {
	t.Helper()
	if b, e := prim.Expand(secret, label, n); !bytes.Equal(b, want) || e != wantE {
		t.Errorf("Expand with %d, %d bytes, %d: %.40x, %d; want %.40x, %d", len(secret), len(label), n, b, e, want, wantE)
	}
}

// P7.2: expansions that were worked out apart from this program.
func TestExpandOfKnownBytes(t *testing.T) {
	for _, c := range []struct {
		secret []byte
		label  string
		n      int
		digits string
	}{
		{[]byte("s"), "l", 40, "8137ffae9f0612d8e82b7ac6dc2c6e0ce291de2d9ffe8209c5b0189318a541250501b1fd3c748975"},
		{nil, "", 17, "e3de584c4342198a27dd15bdc6850dae07"},
		{run(255, 7, 3), string(run(255, 5, 1)), 20, "c14ca74c998cbc63d69dce3b299112b40c04b816"},
	} {
		b, e := prim.Expand(c.secret, c.label, c.n)
		if wantHex(t, "Expand", b, c.digits); e != api.OK {
			t.Errorf("Expand: %d", e)
		}
	}
	b, _ := prim.Expand([]byte("s"), "l", 1024)
	wantHex(t, "Expand's last bytes", b[1016:], "5f4546954fd95004")
}

// P7.2: every n that is allowed; each is the beginning of the longest.
func TestExpandEveryN(t *testing.T) {
	secret, label := run(20, 3, 1), "label of a secret"
	all := expanded(secret, label, 1024)
	for n := range 1025 {
		wantExpanded(t, secret, label, n, all[:n], api.OK)
	}
}

// P7.2: secret and label of each length about their edges, with n about its own; ErrKey is told ahead of ErrHuge.
func TestExpandEdges(t *testing.T) {
	lengths := []int{0, 1, 15, 16, 17, 254, 255, 256, 257, 511, 512, 70000}
	for _, s := range lengths {
		for _, l := range lengths {
			secret, label := run(s, 3, 1), string(run(l, 5, 2))
			for _, n := range []int{math.MinInt, -1 << 32, -16, -1, 0, 1, 15, 16, 17, 31, 32, 33, 1008, 1009, 1023, 1024, 1025, 1026, 4096, 1 << 32, math.MaxInt} {
				switch {
				case s > 255 || l > 255:
					wantExpanded(t, secret, label, n, nil, api.ErrKey)
				case n < 0 || n > 1024:
					wantExpanded(t, secret, label, n, nil, api.ErrHuge)
				default:
					wantExpanded(t, secret, label, n, expanded(secret, label, n), api.OK)
				}
			}
		}
	}
}

// P7.2: what stands in the secret is told from what stands in the label, and a label is bytes, not runes.
func TestExpandKeepsApart(t *testing.T) {
	seen := map[string]string{}
	for cut := range 9 {
		text := "ABCDEFGH"
		b, _ := prim.Expand([]byte(text[:cut]), text[cut:], 16)
		seen[string(b)] = text
	}
	if len(seen) != 9 {
		t.Errorf("nine pairs of secret and label, %d expansions", len(seen))
	}
	for _, label := range []string{"\xff\xfe", "\u00e9", "\x00", "\xc3"} {
		wantExpanded(t, []byte("s"), label, 50, expanded([]byte("s"), label, 50), api.OK)
	}
	wantExpanded(t, nil, strings.Repeat("\u00e9", 127), 3, expanded(nil, strings.Repeat("\u00e9", 127), 3), api.OK)
	wantExpanded(t, nil, strings.Repeat("\u00e9", 128), 3, nil, api.ErrKey)
}

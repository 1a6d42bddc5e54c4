package prim_test

import (
	"math"
	"math/big"
	"math/rand"
	"testing"

	"turnpike/prim"
)

const prime = 1<<61 - 1

// powerOf: the power by the chapter's words.
func powerOf(base, exponent int) int {
	if base < 0 || base >= prime || exponent < 0 {
		return 0
	}
	return int(new(big.Int).Exp(big.NewInt(int64(base)), big.NewInt(int64(exponent)), big.NewInt(prime)).Int64())
}

// numbers: those at which something changes, or might.
func numbers() []int {
	return []int{math.MinInt, math.MinInt + 1, -prime - 1, -prime, -37, -2, -1, 0, 1, 2, 3, 36, 37, 38, 60, 61, 62, 63, 64, 1<<31 - 1, 1 << 32, 1 << 60, prime - 2, prime - 1, prime, prime + 1, prime + 37, 1<<62 - 1, 1 << 62, math.MaxInt - 1, math.MaxInt}
}

// P7.6: the examples, and powers that were worked out apart from this program.
func TestPowerOfKnownNumbers(t *testing.T) {
	for _, c := range []struct{ base, exponent, want int }{
		{37, 0, 1}, {37, 1, 37}, {37, 2, 1369}, {0, 5, 0}, {0, 1, 0}, {0, 0, 1}, {1, 0, 1}, {1, math.MaxInt, 1}, {2, 61, 1}, {2, 60, 1 << 60}, {2, 62, 2},
		{0, math.MaxInt, 0}, {37, math.MaxInt, 94931877133},
		{prime - 1, 0, 1}, {prime - 1, 1, prime - 1}, {prime - 1, 2, 1}, {prime - 1, math.MaxInt, prime - 1}, {prime - 1, math.MaxInt - 1, 1},
		{3, 1000000000000, 1448368043726487486}, {123456789012345678, 987654321098765432, 228779911208474777},
		{-1, 0, 0}, {-1, 1, 0}, {-1, 2, 0}, {math.MinInt, 0, 0}, {prime, 0, 0}, {prime, 1, 0}, {prime + 1, 0, 0}, {prime + 1, 1, 0}, {math.MaxInt, 0, 0}, {math.MaxInt, 1, 0},
		{37, -1, 0}, {1, -1, 0}, {0, -1, 0}, {37, math.MinInt, 0}, {-1, -1, 0}, {prime, -1, 0},
	} {
		if got := prim.Power(c.base, c.exponent); got != c.want {
			t.Errorf("Power(%d, %d): %d; want %d", c.base, c.exponent, got, c.want)
		}
	}
}

// P7.6: every pair of the edges, and many pairs by chance.
func TestPower(t *testing.T) {
	for _, base := range numbers() {
		for _, exponent := range numbers() {
			wantPower(t, base, exponent)
		}
	}
	rng := rand.New(rand.NewSource(76))
	for range 20000 {
		wantPower(t, rng.Intn(prime), rng.Int())
		wantPower(t, rng.Intn(prime)>>rng.Intn(61), rng.Int()>>rng.Intn(63))
		wantPower(t, int(rng.Uint64()), int(rng.Uint64()))
	}
}

// wantPower holds the three calls of one power against the chapter's words.
func wantPower(t *testing.T, base, exponent int) {
	t.Helper()
	want := powerOf(base, exponent)
	if got := prim.Power(base, exponent); got != want {
		t.Errorf("Power(%d, %d): %d; want %d", base, exponent, got, want)
	}
	if got := prim.Agree(exponent, base); got != want {
		t.Errorf("Agree(%d, %d): %d; want %d", exponent, base, got, want)
	}
	if got := prim.Public(exponent); got != powerOf(37, exponent) {
		t.Errorf("Public(%d): %d; want %d", exponent, got, powerOf(37, exponent))
	}
}

// P7.6: two who tell each other their public numbers agree.
func TestAgree(t *testing.T) {
	if got := prim.Agree(12345, prim.Public(678)); got != 1904680045801122142 {
		t.Errorf("Agree(12345, Public(678)): %d", got)
	}
	rng := rand.New(rand.NewSource(77))
	for _, a := range numbers() {
		for _, b := range append(numbers(), rng.Int(), rng.Int()) {
			if a >= 0 && b >= 0 && prim.Agree(a, prim.Public(b)) != prim.Agree(b, prim.Public(a)) {
				t.Errorf("%d and %d do not agree", a, b)
			}
		}
	}
}

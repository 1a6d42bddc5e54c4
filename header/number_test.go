package header_test

import (
	"math"
	"math/big"
	"math/rand"
	"testing"

	"turnpike/api"
	"turnpike/header"
)

const num = api.MaxNum

// wantWidth asks Width for one answer.
func wantWidth(t *testing.T, n, told, width int) {
	t.Helper()
	if got := header.Width(n, told); got != width {
		t.Errorf("Width(%d, %d): %d; want %d", n, told, got, width)
	}
}

// P6.4: the least width whose half holds the difference, at each power of two that is looked at.
func TestWidth(t *testing.T) {
	wantWidth(t, 10, 9, 1)
	wantWidth(t, 1000, 9, 2)
	for _, told := range []int{-1, 0, 1, 9, 1000, 1 << 40, num - 1<<31 - 1} {
		for _, c := range []struct{ difference, width int }{
			{1, 1}, {2, 1}, {1<<7 - 2, 1}, {1<<7 - 1, 1}, {1 << 7, 2}, {1<<7 + 1, 2},
			{1<<8 - 1, 2}, {1 << 8, 2}, {1<<15 - 1, 2}, {1 << 15, 3}, {1<<15 + 1, 3},
			{1<<16 - 1, 3}, {1 << 16, 3}, {1<<23 - 1, 3}, {1 << 23, 4}, {1<<23 + 1, 4},
			{1<<24 - 1, 4}, {1 << 24, 4}, {1<<31 - 1, 4}, {1 << 31, 0}, {1<<31 + 1, 0},
		} {
			wantWidth(t, told+c.difference, told, c.width)
		}
	}
	for _, difference := range []int{1<<32 - 1, 1 << 32, 1 << 39, 1 << 40, 1 << 61} {
		wantWidth(t, difference-1, -1, 0)
		wantWidth(t, difference, 0, 0)
	}
}

// P6.4: numbers at their bounds and out of them.
func TestWidthBounds(t *testing.T) {
	wantWidth(t, 0, -1, 1)
	wantWidth(t, num, num-1, 1)
	wantWidth(t, num, num-127, 1)
	wantWidth(t, num, num-128, 2)
	wantWidth(t, num, -1, 0)
	wantWidth(t, num, 0, 0)
	for _, c := range [][2]int{
		{-1, -1}, {-1, -2}, {-2, -3}, {math.MinInt, -1}, {math.MinInt, math.MinInt}, {-1, math.MinInt},
		{num + 1, num}, {num + 1, num - 5}, {math.MaxInt, math.MaxInt - 1}, {math.MaxInt, num}, {math.MaxInt, math.MinInt}, {math.MaxInt, -1},
		{0, -2}, {1, -2}, {5, -3}, {0, math.MinInt}, {5, math.MinInt}, {num, math.MinInt},
		{0, 0}, {9, 9}, {9, 10}, {0, 1}, {num, num}, {num, num + 1}, {0, math.MaxInt}, {num, math.MaxInt},
	} {
		wantWidth(t, c[0], c[1], 0)
	}
}

// modelExpand: by the words of P6.5, in numbers without bounds.
func modelExpand(high, part, width int) int {
	step := new(big.Int).Lsh(big.NewInt(1), uint(8*width))
	want := new(big.Int).Add(big.NewInt(int64(high)), big.NewInt(1))
	n := new(big.Int).Add(new(big.Int).Mul(new(big.Int).Sub(new(big.Int).Div(want, step), big.NewInt(3)), step), big.NewInt(int64(part)))
	var best, least *big.Int
	for range 7 {
		distance := new(big.Int).Abs(new(big.Int).Sub(n, want))
		inside := n.Sign() >= 0 && n.Cmp(big.NewInt(num)) <= 0
		if inside && (best == nil || distance.Cmp(least) <= 0) {
			best, least = new(big.Int).Set(n), distance
		}
		n.Add(n, step)
	}
	return int(best.Int64())
}

// wantExpand asks Expand for one answer.
func wantExpand(t *testing.T, high, part, width, n int) {
	t.Helper()
	if got := header.Expand(high, part, width); got != n {
		t.Errorf("Expand(%d, %d, %d): %d; want %d", high, part, width, got, n)
	}
}

// P6.5: ordinary numbers, and numbers that are equally near.
func TestExpand(t *testing.T) {
	wantExpand(t, 0xa82f30ea, 0x9b32, 2, 0xa82f9b32)
	wantExpand(t, 9, 10, 1, 10)
	wantExpand(t, 255, 0, 1, 256)
	wantExpand(t, 256, 255, 1, 255)
	wantExpand(t, 299, 172, 1, 428) // 172 and 428 are 128 from 300
	wantExpand(t, 298, 172, 1, 172)
	wantExpand(t, 300, 172, 1, 428)
	for width := 1; width <= 4; width++ {
		step := 1 << (8 * width)
		for _, k := range []int{1, 2, 1000} {
			base := k * step
			half := step / 2
			wantExpand(t, base-1, 0, width, base)
			wantExpand(t, base-1, 1, width, base+1)
			wantExpand(t, base-1, half-1, width, base+half-1)
			wantExpand(t, base-1, half, width, base+half) // base-half is as near
			wantExpand(t, base-1, half+1, width, base-half+1)
			wantExpand(t, base-1, step-1, width, base-1)
			wantExpand(t, base+half-1, 0, width, base+step) // base is as near
			wantExpand(t, base+half-2, 0, width, base)
			wantExpand(t, base+half, 0, width, base+step)
		}
	}
}

// P6.5: near 0 and near MaxNum there is nothing beyond.
func TestExpandAtTheEnds(t *testing.T) {
	for width := 1; width <= 4; width++ {
		step := 1 << (8 * width)
		half := step / 2
		for _, part := range []int{0, 1, half - 1, half, half + 1, step - 1} {
			wantExpand(t, -1, part, width, part)
			wantExpand(t, 0, part, width, part)
			wantExpand(t, num, part, width, num+1-step+part)
			wantExpand(t, num-1, part, width, num+1-step+part)
		}
		wantExpand(t, half-2, 0, width, 0)
		wantExpand(t, half-1, 0, width, step)
		wantExpand(t, num-half, step-1, width, num)
		wantExpand(t, num-half-1, step-1, width, num)
		wantExpand(t, num-half-2, step-1, width, num-step)
		wantExpand(t, num-half, 0, width, num+1-step)
		wantExpand(t, num-step-half+1, step-1, width, num-step)
	}
}

// P6.5: what is out of its bounds.
func TestExpandBounds(t *testing.T) {
	for _, width := range []int{math.MinInt, -1, 0, 5, 6, 7, 8, 9, 63, 64, 1 << 40, math.MaxInt} {
		wantExpand(t, 1000, 0, width, 0)
		wantExpand(t, 1000, 7, width, 0)
		wantExpand(t, -1, 0, width, 0)
	}
	for width := 1; width <= 4; width++ {
		step := 1 << (8 * width)
		for _, part := range []int{math.MinInt, -step, -2, -1, step, step + 1, 1 << 40, num, math.MaxInt} {
			wantExpand(t, 10*step, part, width, 0)
		}
		for _, high := range []int{math.MinInt, -step, -3, -2, num + 1, num + 2, math.MaxInt - 1, math.MaxInt} {
			wantExpand(t, high, 7, width, 0)
		}
		wantExpand(t, num, step-1, width, num)
		wantExpand(t, -1, step-1, width, step-1)
	}
}

// P6.5: every part of one byte against the words, at both ends and between; and every width by chance.
func TestExpandAgainstModel(t *testing.T) {
	for _, around := range []int{400, 1 << 20, num - 400} {
		for high := max(-1, around-401); high <= around+400; high++ {
			for part := 0; part < 256; part += 3 {
				wantExpand(t, high, part, 1, modelExpand(high, part, 1))
			}
		}
	}
	rng := rand.New(rand.NewSource(65))
	for range 100000 {
		width := 1 + rng.Intn(4)
		step := 1 << (8 * width)
		high := []int{rng.Intn(3*step) - 1, rng.Intn(num) - 1, num - rng.Intn(3*step)}[rng.Intn(3)]
		part := rng.Intn(step)
		if rng.Intn(3) == 0 {
			part = (high + 1 + step/2 + rng.Intn(3) - 1) & (step - 1)
		}
		wantExpand(t, high, part, width, modelExpand(high, part, width))
	}
}

// P6.4, P6.5: a number that is told in its width is understood, whatever came between what was told and it.
func TestWidthAndExpand(t *testing.T) {
	rng := rand.New(rand.NewSource(64))
	for range 100000 {
		n := []int{rng.Intn(1 << 10), rng.Intn(1 << 40), num - rng.Intn(1<<20)}[rng.Intn(3)]
		told := max(-1, n-1-rng.Intn(1<<(1+rng.Intn(31))))
		width := header.Width(n, told)
		if width == 0 {
			if n-told < 1<<31 {
				t.Fatalf("Width(%d, %d): 0", n, told)
			}
			continue
		}
		high := told + rng.Intn(n-told)
		if got := header.Expand(high, n&(1<<(8*width)-1), width); got != n {
			t.Fatalf("Expand(%d, .., %d) of %d: %d", high, width, n, got)
		}
	}
}

package header

import "turnpike/api"

// Width: how many bytes tell a packet number.
func Width(n, told int) int {
	if n < 0 || n > api.MaxNum || told < -1 || n <= told {
		return 0
	}
	for width := 1; width <= 4; width++ {
		if n-told < 1<<(8*width-1) {
			return width
		}
	}
	return 0
}

// Expand: the packet number that its last bytes tell.
func Expand(high, part, width int) int {
	if width < 1 || width > 4 || high < -1 || high > api.MaxNum {
		return 0
	}
	step := 1 << (8 * width)
	if part < 0 || part >= step {
		return 0
	}
	want := high + 1
	near := want&^(step-1) | part
	best := -1
	for _, n := range [3]int{near + step, near, near - step} { // downwards: of two that are equally near the greater one stays
		if n >= 0 && n <= api.MaxNum && (best < 0 || apart(n, want) < apart(best, want)) {
			best = n
		}
	}
	return best
}

// apart: how far two numbers are from each other.
func apart(a, b int) int {
	return max(a, b) - min(a, b)
}

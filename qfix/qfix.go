// Package qfix is layer 1: see shared/doc/01-qfix.md.
package qfix

import (
	"math/bits"

	"alidade/api"
)

const (
	point    = 24 // bits behind the point
	rootBits = 35 // a root's square is below 2^70, so the root is below 2^35
	mostBy   = 62 // the greatest power of two that Half divides by

	// beyond is out of bounds with either sign, and so is all above it: greater sizes need not be told apart.
	beyond = 1 << 47
)

// Clamp is a number in bounds.
func Clamp(a api.Q) (api.Q, bool) {
	if a > api.Top {
		return api.Top, true
	}
	if a < api.Low {
		return api.Low, true
	}
	return a, false
}

// Add is a sum.
func Add(a, b api.Q) (api.Q, bool) {
	a, b, met := clampBoth(a, b)
	sum, over := Clamp(a + b)
	return sum, met || over
}

// Sub is a difference.
func Sub(a, b api.Q) (api.Q, bool) {
	a, b, met := clampBoth(a, b)
	difference, over := Clamp(a - b)
	return difference, met || over
}

// Mul is a product.
func Mul(a, b api.Q) (api.Q, bool) {
	a, b, met := clampBoth(a, b)
	takeOff, layOn := signs()
	high, low := bits.Mul64(takeOff(a), takeOff(b))
	whole := int64(beyond)
	if high < beyond>>(64-point) {
		whole = int64(high<<(64-point) | low>>point)
	}
	product, over := Clamp(layOn(nearest(whole, below(low, point), 1<<point)))
	return product, met || over
}

// Div is a quotient.
func Div(a, b api.Q) (api.Q, bool) {
	a, b, met := clampBoth(a, b)
	if b == 0 {
		return byNothing(a), true
	}
	takeOff, layOn := signs()
	size, by := takeOff(a), takeOff(b)
	whole, rest := uint64(beyond), uint64(0)
	if size>>(64-point) < by { // else the quotient does not fit into a word
		whole, rest = bits.Div64(size>>(64-point), size<<point, by)
	}
	quotient, over := Clamp(layOn(nearest(int64(min(whole, beyond)), rest, by)))
	return quotient, met || over
}

// Sqrt is a square root.
func Sqrt(a api.Q) (api.Q, bool) {
	a, met := Clamp(a)
	if a < 0 {
		return 0, true
	}
	high, low := uint64(a)>>(64-point), uint64(a)<<point
	root := uint64(0)
	for i := range rootBits {
		next := root | 1<<(rootBits-1-i)
		h, l := bits.Mul64(next, next)
		if h < high || h == high && l <= low {
			root = next
		}
	}
	return api.Q(root), met
}

// Of is a whole number.
func Of(n int64) (api.Q, bool) {
	// Bounds are asked ahead of the shift, which could lose bits.
	if n > int64(api.Top>>point) {
		return api.Top, true
	}
	if n < int64(api.Low>>point) {
		return api.Low, true
	}
	return api.Q(n << point), false
}

// Round is the nearest whole number.
func Round(a api.Q) int64 {
	a, _ = Clamp(a)
	return Half(int64(a), point)
}

// Half is a number by a power of two.
func Half(n int64, by int) int64 {
	by = min(max(by, 0), mostBy)
	return nearest(n>>by, below(uint64(n), by), 1<<by)
}

// clampBoth is two operands in bounds, and whether one of them wasn't.
func clampBoth(a, b api.Q) (api.Q, api.Q, bool) {
	a, metA := Clamp(a)
	b, metB := Clamp(b)
	return a, b, metA || metB
}

// signs are two closures over one sign: one takes it off the operands, one lays it on what comes of them. Halves go to the even one on both sides of 0, so sizes may be rounded ahead of their sign.
func signs() (takeOff func(api.Q) uint64, layOn func(int64) api.Q) {
	negative := false
	takeOff = func(n api.Q) uint64 {
		if n < 0 {
			negative = !negative
			n = -n
		}
		return uint64(n)
	}
	layOn = func(size int64) api.Q {
		if negative {
			size = -size
		}
		return api.Q(size)
	}
	return takeOff, layOn
}

// below are the last bits of a word.
func below(word uint64, count int) uint64 {
	return word & (1<<count - 1)
}

// nearest is whole and rest by unit, rounded: of two that are as near the even one. The rest is below the unit, and that at most 2^62, so that twice the rest fits.
func nearest(whole int64, rest, unit uint64) int64 {
	if 2*rest > unit || 2*rest == unit && whole&1 == 1 {
		return whole + 1
	}
	return whole
}

// byNothing is what a number by 0 counts as.
func byNothing(a api.Q) api.Q {
	if a > 0 {
		return api.Top
	}
	if a < 0 {
		return api.Low
	}
	return 0
}

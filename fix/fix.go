// Package fix is whole numbers that are parts: see DOC.md, chapter 1.
package fix

import (
	"math/bits"

	"wainscot/api"
)

// The limits of what Round takes: beyond them, the sums of the layers below would no longer fit.
const (
	maxNum = 1 << 61
	maxDen = 1 << 40
)

// Ok tells whether one fits.
func Ok(a int) bool { return -api.Limit <= a && a <= api.Limit }

// Add is a sum.
func Add(a, b int) (int, api.Errno) {
	if !Ok(a) || !Ok(b) {
		return 0, api.ErrOver
	}
	return fitting(a + b)
}

// Mul is a product.
func Mul(a, b int) (int, api.Errno) {
	if !Ok(a) || !Ok(b) {
		return 0, api.ErrOver
	}
	return fitting(nearest(a*b, api.One))
}

// Div is a part.
func Div(a, b int) (int, api.Errno) {
	if b == 0 {
		return 0, api.ErrArg
	}
	if !Ok(a) || !Ok(b) {
		return 0, api.ErrOver
	}
	if b < 0 {
		a, b = -a, -b
	}
	return fitting(nearest(api.One*a, b))
}

// Round is a part as a whole number.
func Round(n, d int) (int, api.Errno) {
	if d < 1 || d > maxDen {
		return 0, api.ErrArg
	}
	if n < -maxNum || n > maxNum {
		return 0, api.ErrOver
	}
	return nearest(n, d), api.OK
}

// Log2 is its logarithm.
func Log2(n int) int {
	if n < 1 {
		return -1
	}
	return bits.Len(uint(n)) - 1
}

// Lerp is between two.
func Lerp(a, b, t int) (int, api.Errno) {
	if !Ok(a) || !Ok(b) {
		return 0, api.ErrOver
	}
	if t < 0 || t > api.One {
		return 0, api.ErrArg
	}
	return a + nearest(t*(b-a), api.One), api.OK
}

// fitting is a number, if it fits.
func fitting(a int) (int, api.Errno) {
	if !Ok(a) {
		return 0, api.ErrOver
	}
	return a, api.OK
}

// nearest is n over d (above 0), a half upward. It looks at what is left instead of doubling n, which might not fit.
func nearest(n, d int) int {
	whole, left := n/d, n%d
	if left < 0 {
		whole, left = whole-1, left+d
	}
	if 2*left >= d {
		whole++
	}
	return whole
}

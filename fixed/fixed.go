// Package fixed implements fixed-point arithmetic with 10 fractional bits. See shared/doc/01-fixed.md.
package fixed

import "arenanet/api"

// Mul returns a*b/One, rounded toward negative infinity.
func Mul(a, b int) int { return floorDiv(a*b, api.One) }

// Div returns a*One/b, rounded toward negative infinity, or 0 if b is 0.
func Div(a, b int) int { return floorDiv(a*api.One, b) }

// MulDiv returns a*b/c, rounded toward negative infinity, or 0 if c is 0.
func MulDiv(a, b, c int) int { return floorDiv(a*b, c) }

// floorDiv returns n/d, rounded toward negative infinity, or 0 if d is 0.
func floorDiv(n, d int) int {
	if d == 0 {
		return 0
	}
	quotient, rest := n/d, n%d
	// Go's division rounds toward zero, which is one too high where the rest's sign is not the divisor's.
	switch {
	case rest < 0 && d > 0:
		fallthrough
	case rest > 0 && d < 0:
		quotient--
	}
	return quotient
}

// Isqrt returns the largest integer whose square does not exceed n, or 0 if n is negative.
func Isqrt(n int) int {
	if n < 0 {
		return 0
	}
	// The root is found one binary digit at a time, from the digit whose square is 2^62 downward. With square being
	// the digit's square, root holds the digits found, times twice the digit: so root+square is what setting the digit
	// adds to the root's square, and neither a product nor an overflow arises.
	root, rest := 0, n
digits:
	for square := 1 << 62; square > 0; square >>= 2 {
		step := root + square
		root >>= 1
		if rest < step {
			continue digits
		}
		rest -= step
		root += square
	}
	return root
}

// Sqrt returns the fixed-point square root of a, rounded down, or 0 if a is negative.
func Sqrt(a int) int {
	// Asked before the product is made: far below zero it wraps round to a positive number.
	if a < 0 {
		return 0
	}
	return Isqrt(a * api.One)
}

// Clamp limits n to the range from low to high.
func Clamp(n, low, high int) int {
	if n < low {
		return low
	}
	if n > high {
		return high
	}
	return n
}

// Abs returns the absolute value of n.
func Abs(n int) int {
	if n < 0 {
		return -n
	}
	return n
}

// Sign returns -1, 0 or 1.
func Sign(n int) int {
	switch {
	case n < 0:
		return -1
	case n > 0:
		return 1
	}
	return 0
}

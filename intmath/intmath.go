// Package intmath is layer 1: arithmetic on 64-bit integers with floored
// division and overflow checks. See shared/doc/01-intmath.md.
package intmath

import "math"

// Div returns the floored quotient of a and b and true; or 0 and false if b is
// 0 or the quotient is not a 64-bit integer.
func Div(a, b int) (int, bool) {
	if b == 0 {
		return 0, false
	}
	q := a / b
	if roundedUp(a, b) {
		q--
	}
	return checked(q, func(int) bool { return quotientFits(a, b) })
}

// Mod returns the floored remainder of a and b and true; or 0 and false where
// Div fails.
func Mod(a, b int) (int, bool) {
	if b == 0 {
		return 0, false
	}
	r := a % b
	if roundedUp(a, b) {
		r += b
	}
	// The remainder always fits: it is refused because Mod has to fail with Div.
	return checked(r, func(int) bool { return quotientFits(a, b) })
}

// Add returns a + b and true; or 0 and false if it is not a 64-bit integer.
func Add(a, b int) (int, bool) {
	return checked(a+b, func(sum int) bool { return (sum < a) == (b < 0) })
}

// Sub returns a - b and true; or 0 and false if it is not a 64-bit integer.
func Sub(a, b int) (int, bool) {
	return checked(a-b, func(difference int) bool { return (difference < a) == (b > 0) })
}

// Mul returns a * b and true; or 0 and false if it is not a 64-bit integer.
func Mul(a, b int) (int, bool) {
	return checked(a*b, func(product int) bool {
		if a == 0 {
			return true
		}
		// Dividing undoes the multiplication only where the quotient itself
		// does not wrap around.
		return quotientFits(product, a) && product/a == b
	})
}

// Sum returns the sum of l and true; or 0 and false if the sum of its first k
// numbers is not a 64-bit integer for some k.
func Sum(l ...int) (int, bool) {
	sum := 0
	for _, n := range l {
		next, ok := Add(sum, n)
		if !ok {
			return 0, false
		}
		sum = next
	}
	return sum, true
}

// Clamp returns the number from low to high that is nearest to n, for low <= high.
func Clamp(n, low, high int) int {
	if n < low {
		return low
	}
	if n > high {
		return high
	}
	return n
}

// checked returns result, which was computed with wraparound, and true; or 0
// and false if exact reports that it is not to be used.
func checked(result int, exact func(result int) bool) (int, bool) {
	if !exact(result) {
		return 0, false
	}
	return result, true
}

// roundedUp reports whether Go's a / b, which rounds towards 0, is greater than
// the exact quotient.
func roundedUp(a, b int) bool {
	return a%b != 0 && (a < 0) != (b < 0)
}

// quotientFits reports whether a / b, for b other than 0, is a 64-bit integer.
func quotientFits(a, b int) bool {
	return a != math.MinInt || b != -1
}

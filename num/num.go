// Package num: steps: see DOC.md, chapter 1.
package num

import "meniscus/api"

// topBit is the highest bit that a root can have: Most * One is 2^46.
const topBit = 1 << 23

// In tells whether n is a number: -Most to Most.
func In(n int) bool {
	return -api.Most <= n && n <= api.Most
}

// Floor is a / b, floored; 0, if b is 0. The least int by -1 wraps round, as no int holds that quotient.
func Floor(a, b int) int {
	if b == 0 {
		return 0
	}
	q := a / b
	// Go cuts towards 0, which lies above a quotient below 0.
	if a%b != 0 && (a < 0) != (b < 0) {
		q--
	}
	return q
}

// Mul is a * b / One, rounded down, or up.
func Mul(a, b int, up bool) (int, bool) {
	// Only numbers that are In have a product that an int surely holds.
	if !In(a) || !In(b) {
		return 0, false
	}
	return number(quotient(a*b, api.One, up))
}

// Div is a * One / b, rounded down, or up.
func Div(a, b int, up bool) (int, bool) {
	if !In(a) || !In(b) || b == 0 {
		return 0, false
	}
	return number(quotient(a*api.One, b, up))
}

// Root is the root of a * One, rounded down, or up.
func Root(a int, up bool) (int, bool) {
	if !In(a) || a < 0 {
		return 0, false
	}
	n := a * api.One
	r := floorRoot(n)
	if up && r*r < n {
		r++
	}
	return number(r)
}

// quotient is a / b, rounded down, or up; b is not 0.
func quotient(a, b int, up bool) int {
	if up {
		return -Floor(-a, b)
	}
	return Floor(a, b)
}

// number is n, if it is In.
func number(n int) (int, bool) {
	if !In(n) {
		return 0, false
	}
	return n, true
}

// floorRoot is the root of n, floored, found bit by bit; n is 0 to Most * One.
// A float's root would hang on how it is rounded.
func floorRoot(n int) int {
	r := 0
	for bit := topBit; bit > 0; bit >>= 1 {
		if (r+bit)*(r+bit) <= n {
			r += bit
		}
	}
	return r
}

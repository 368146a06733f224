// Package field: arithmetic modulo Prime. All numbers that its functions are
// handed are elements, but for the exponent of Power; so are all they give.
package field

import "veil/api"

// An element is cut in two at cut, which is 2 to the 31: the product of two
// halves then fits in an int. A number that is multiplied by cut is cut at
// wrap, which is 2 to the 30, because cut times wrap is 1 modulo Prime.
const (
	cut  = 1 << 31
	wrap = 1 << 30
)

// Plus adds two elements.
func Plus(a, b int) int {
	return (a + b) % api.Prime
}

// Minus takes b away from a.
func Minus(a, b int) int {
	return (a - b + api.Prime) % api.Prime
}

// Times multiplies two elements.
func Times(a, b int) int {
	aHigh := a / cut
	aLow := a % cut
	bHigh := b / cut
	bLow := b % cut
	// The high halves meet at cut times cut, which is 2 modulo Prime.
	high := 2 * aHigh * bHigh
	// The crosswise products meet at cut, and cut times wrap is 1.
	cross := aHigh*bLow + aLow*bHigh
	middle := cross/wrap + cross%wrap*cut
	// Only low can reach 2 to the 62: it is brought down, so that the sum of
	// the three stays below 2 to the 63.
	low := aLow * bLow % api.Prime
	return (high + middle + low) % api.Prime
}

// Power raises a to the k; a k below 0 counts as 0.
func Power(a, k int) int {
	product := 1
	square := a
	for k > 0 {
		if k%2 == 1 {
			product = Times(product, square)
		}
		square = Times(square, square)
		k = k / 2
	}
	return product
}

// Inverse gives what makes 1 when it is multiplied by a; of 0 it gives 0.
func Inverse(a int) int {
	// Prime is a prime number, so a to the Prime - 1 is 1.
	return Power(a, api.Prime-2)
}

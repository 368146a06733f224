// Package share: shares of a secret, and the secret made out of them (P4).
package share

import (
	"veil/api"
	"veil/bounds"
	"veil/field"
)

// Split makes n shares of a secret.
func Split(secret int, draws []int, n int) ([]int, api.Errno) {
	// The bounds of n and the number of draws are looked at first, so that no
	// more than MaxClients draws are ever read.
	if n < 1 || n > api.MaxClients || len(draws) >= n {
		return nil, api.ErrArg
	}
	if !bounds.Element(secret) || !bounds.Elements(draws) {
		return nil, api.ErrArg
	}
	shares := make([]int, 0, n)
	for x := 1; x <= n; x++ {
		value := Number(secret, draws, x)
		shares = append(shares, value)
	}
	return shares, api.OK
}

// Number gives the share number x of a secret: the value at x of the polynomial
// that begins with secret and goes on with draws. All that it is handed are
// elements.
func Number(secret int, draws []int, x int) int {
	value := 0
	for i := len(draws) - 1; i >= 0; i-- {
		value = field.Plus(value, draws[i])
		value = field.Times(value, x)
	}
	return field.Plus(value, secret)
}

// Join gives the value at 0 of the polynomial through the points.
func Join(points []api.Point) (int, api.Errno) {
	if !arePoints(points) {
		return 0, api.ErrPoint
	}
	value := 0
	for _, p := range points {
		part := field.Times(p.Y, weight(points, p.X))
		value = field.Plus(value, part)
	}
	return value, api.OK
}

// arePoints tells whether Join can take the points.
func arePoints(points []api.Point) bool {
	if len(points) < 1 || len(points) > api.MaxClients {
		return false
	}
	var seen [api.MaxClients + 1]bool
	for _, p := range points {
		if !bounds.Client(p.X) || !bounds.Element(p.Y) {
			return false
		}
		if seen[p.X] {
			return false
		}
		seen[p.X] = true
	}
	return true
}

// weight is Lagrange's: the value at 0 of the polynomial that is 1 at x, and 0
// at the X of every other point.
func weight(points []api.Point, x int) int {
	above := 1
	below := 1
	for _, p := range points {
		if p.X != x {
			gap := field.Minus(p.X, x)
			above = field.Times(above, p.X)
			below = field.Times(below, gap)
		}
	}
	return field.Times(above, field.Inverse(below))
}

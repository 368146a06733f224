// Package pad: the pads of an element, and what is masked (P5) and sealed (P6)
// with them.
package pad

import (
	"veil/api"
	"veil/field"
)

// number gives the pad number q of the element k; q is an element too.
func number(k, q int) int {
	w := field.Plus(k, field.Times(q, api.Step))
	square := field.Times(w, w)
	return field.Times(square, w)
}

package pad

import (
	"veil/api"
	"veil/bounds"
	"veil/field"
)

// Seal makes two elements unreadable on their way between two clients.
func Seal(key, from, to, a, b int) (int, int, int, api.Errno) {
	if !isWay(key, from, to) || !bounds.Element(a) || !bounds.Element(b) {
		return 0, 0, 0, api.ErrArg
	}
	q := firstPad(from, to)
	x := field.Plus(a, number(key, q))
	y := field.Plus(b, number(key, q+1))
	z := tag(key, q, x, y)
	return x, y, z, api.OK
}

// Open reads what Seal has made.
func Open(key, from, to, x, y, z int) (int, int, api.Errno) {
	if !isWay(key, from, to) || !bounds.Element(x) || !bounds.Element(y) || !bounds.Element(z) {
		return 0, 0, api.ErrArg
	}
	q := firstPad(from, to)
	if tag(key, q, x, y) != z {
		return 0, 0, api.ErrTag
	}
	a := field.Minus(x, number(key, q))
	b := field.Minus(y, number(key, q+1))
	return a, b, api.OK
}

// isWay tells whether key, from and to may be.
func isWay(key, from, to int) bool {
	return bounds.Element(key) && bounds.Client(from) && bounds.Client(to)
}

// firstPad is where the four pads of a way begin: no two ways share a pad, and
// none is one that Stretch uses.
func firstPad(from, to int) int {
	return 64*from + 4*to
}

// tag binds x and y to the key and the way, of which q is the first pad.
func tag(key, q, x, y int) int {
	p := number(key, q+2)
	ofX := field.Times(p, x)
	ofY := field.Times(field.Times(p, p), y)
	sum := field.Plus(ofX, ofY)
	return field.Plus(sum, number(key, q+3))
}

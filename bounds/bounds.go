// Package bounds: which numbers may be handed in.
package bounds

import "veil/api"

// Element tells whether a is an element.
func Element(a int) bool {
	return a >= 0 && a < api.Prime
}

// Elements tells whether all of list are elements.
func Elements(list []int) bool {
	for _, a := range list {
		if !Element(a) {
			return false
		}
	}
	return true
}

// Client tells whether id can be a client's number.
func Client(id int) bool {
	return id >= 1 && id <= api.MaxClients
}

// Key tells whether a can be a public key.
func Key(a int) bool {
	return a >= 1 && a < api.Prime
}

// Word tells whether a can be a number of a list.
func Word(a int) bool {
	return a >= 0 && a < api.Word
}

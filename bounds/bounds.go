// Package bounds: which numbers, configurations and draws may be handed in.
package bounds

import "veil/api"

// Element tells whether a is an element.
func Element(a int) bool {
	return a >= 0 && a < api.Prime
}

// Elements tells whether all of list are elements.
func Elements(list []int) bool {
	for _, a := range list {
		if !Element(a) {
			return false
		}
	}
	return true
}

// Client tells whether id can be a client's number.
func Client(id int) bool {
	return id >= 1 && id <= api.MaxClients
}

// Key tells whether a can be a public key.
func Key(a int) bool {
	return a >= 1 && a < api.Prime
}

// Word tells whether a can be a number of a list.
func Word(a int) bool {
	return a >= 0 && a < api.Word
}

// Words tells whether all of list can be numbers of a list.
func Words(list []int) bool {
	for _, a := range list {
		if !Word(a) {
			return false
		}
	}
	return true
}

// Config tells whether c is a configuration.
func Config(c api.Config) bool {
	if !Client(c.N) || c.T < 1 || c.T > c.N {
		return false
	}
	return c.M >= 1 && c.M <= api.MaxLen && c.D >= 1 && c.D <= api.MaxWait
}

// Draw tells whether d is a draw of the configuration c.
func Draw(c api.Config, d api.Draw) bool {
	// The lengths are looked at first, so that no list is read that is longer
	// than a draw's.
	if len(d.Input) != c.M || len(d.SplitMask) != c.T-1 || len(d.SplitSeed) != c.T-1 {
		return false
	}
	if !Element(d.Channel) || !Element(d.Mask) || !Element(d.Seed) {
		return false
	}
	return Words(d.Input) && Elements(d.SplitMask) && Elements(d.SplitSeed)
}

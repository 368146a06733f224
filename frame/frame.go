// Package frame: what is sent between clients and server, and its bytes (P7).
package frame

import (
	"veil/api"
	"veil/bounds"
)

// What the A of an item of a Tell frame says of its B.
const (
	SeedShare = 1
	MaskShare = 2
)

// isFrame tells whether f can be sent.
func isFrame(f api.Frame) bool {
	// The number of items is looked at first, so that no more than MaxClients
	// of them are ever read.
	if len(f.Items) > api.MaxClients {
		return false
	}
	return fromFits(f) && idsRise(f.Items) && idsFit(f) && numbersFit(f)
}

// fromFits tells whether frames of this kind come from there.
func fromFits(f api.Frame) bool {
	switch f.Kind {
	case api.Hello, api.Shares, api.Masked, api.Tell:
		return bounds.Client(f.From)
	case api.Keys, api.Box, api.Ask:
		return f.From == 0
	}
	return false
}

// idsRise tells whether the Ids are clients' numbers that rise.
func idsRise(items []api.Item) bool {
	before := 0
	for _, x := range items {
		if x.Id <= before || !bounds.Client(x.Id) {
			return false
		}
		before = x.Id
	}
	return true
}

// idsFit tells whether frames of this kind can have that many items, and
// these Ids.
func idsFit(f api.Frame) bool {
	switch f.Kind {
	case api.Hello:
		return len(f.Items) == 1 && hasId(f.Items, f.From)
	case api.Keys, api.Ask, api.Tell:
		return len(f.Items) >= 1
	case api.Shares:
		return !hasId(f.Items, f.From)
	case api.Box:
		return true
	case api.Masked:
		return len(f.Items) >= 1 && areCounted(f.Items)
	}
	return false
}

// hasId tells whether one of the items has this Id.
func hasId(items []api.Item, id int) bool {
	for _, x := range items {
		if x.Id == id {
			return true
		}
	}
	return false
}

// areCounted tells whether the Ids are 1, 2, 3 and so on.
func areCounted(items []api.Item) bool {
	for i, x := range items {
		if x.Id != i+1 {
			return false
		}
	}
	return true
}

// numbersFit tells whether all items have numbers that frames of this kind
// can have.
func numbersFit(f api.Frame) bool {
	for _, x := range f.Items {
		if !itemFits(f.Kind, x) {
			return false
		}
	}
	return true
}

func itemFits(kind int, x api.Item) bool {
	switch kind {
	case api.Hello, api.Keys:
		return bounds.Key(x.A) && bounds.Key(x.B) && x.C == 0
	case api.Shares, api.Box:
		return bounds.Element(x.A) && bounds.Element(x.B) && bounds.Element(x.C)
	case api.Masked:
		return bounds.Word(x.A) && x.B == 0 && x.C == 0
	case api.Ask:
		return x.A == 0 && x.B == 0 && x.C == 0
	case api.Tell:
		return isShareKind(x.A) && bounds.Element(x.B) && x.C == 0
	}
	return false
}

func isShareKind(a int) bool {
	return a == SeedShare || a == MaskShare
}

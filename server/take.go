package server

import (
	"veil/api"
	"veil/bounds"
	"veil/frame"
)

// Take takes bytes in, and tells whether they are counted.
func (x *Server) Take(b []byte) bool {
	f, e := frame.Decode(b)
	if e != api.OK || !x.counts(f) {
		return false
	}
	x.counted[f.From] = true
	x.items[f.From] = f.Items
	return true
}

// counts tells whether this round is to count the frame.
func (x *Server) counts(f api.Frame) bool {
	if !x.isPending() || f.Kind != wantedKind(x.round) || !bounds.Client(f.From) {
		return false
	}
	if !x.senders[f.From] || x.counted[f.From] {
		return false
	}
	return x.itemsFit(f)
}

// wantedKind gives the kind of frame that a round wants.
func wantedKind(round int) int {
	switch round {
	case wantsHello:
		return api.Hello
	case wantsShares:
		return api.Shares
	case wantsMasked:
		return api.Masked
	}
	return api.Tell
}

// itemsFit tells whether the frame, which is of the wanted kind, has the items
// that the server can go on with.
func (x *Server) itemsFit(f api.Frame) bool {
	switch x.round {
	case wantsShares:
		others := x.senders
		others[f.From] = false
		return haveIds(f.Items, others)
	case wantsMasked:
		return len(f.Items) == x.config.M
	case wantsTell:
		return haveIds(f.Items, x.sharers) && tellOf(f.Items, x.senders)
	}
	return true
}

// haveIds tells whether the Ids of the items are just the members.
func haveIds(items []api.Item, set members) bool {
	for _, item := range items {
		if !bounds.Client(item.Id) || !set[item.Id] {
			return false
		}
	}
	// The Ids of a frame rise, so that none of them stands for two.
	return len(items) == sizeOf(set)
}

// tellOf tells whether the items are seed shares of those who stayed, and mask
// shares of all others: shares of a seed and of a mask key join to neither.
func tellOf(items []api.Item, stayed members) bool {
	for _, item := range items {
		if !bounds.Client(item.Id) || stayed[item.Id] != (item.A == frame.SeedShare) {
			return false
		}
	}
	return true
}

package server

import (
	"veil/api"
	"veil/frame"
)

// Tick lets a unit of time go by, and gives what is sent then.
func (x *Server) Tick() []api.Parcel {
	if !x.isPending() {
		return nil
	}
	x.time = x.time + 1
	if x.time != x.config.D*(x.round+1) {
		return nil
	}
	if sizeOf(x.counted) < x.config.T {
		x.stop()
		return nil
	}
	if x.round == wantsTell {
		x.finish()
		return nil
	}
	parcels := x.parcels()
	x.beginNext()
	return parcels
}

// beginNext keeps what later rounds need of this one, and begins the next.
func (x *Server) beginNext() {
	switch x.round {
	case wantsHello:
		x.publics = x.maskPublics()
	case wantsShares:
		x.sharers = x.counted
	case wantsMasked:
		x.masked = x.maskedSum()
	}
	x.round = x.round + 1
	x.senders = x.counted
	x.counted = members{}
	x.items = itemLists{}
}

// parcels gives what goes to those of whom the round has counted a frame.
func (x *Server) parcels() []api.Parcel {
	var parcels []api.Parcel
	for u, isCounted := range x.counted {
		if isCounted {
			f := x.frameFor(u)
			// All that a server writes is a frame, so that nothing is refused.
			b, _ := frame.Encode(f)
			parcels = append(parcels, api.Parcel{From: 0, To: u, Bytes: b})
		}
	}
	return parcels
}

// frameFor gives what goes to u behind the round.
func (x *Server) frameFor(u int) api.Frame {
	switch x.round {
	case wantsHello:
		return api.Frame{Kind: api.Keys, From: 0, Items: x.keys()}
	case wantsShares:
		return api.Frame{Kind: api.Box, From: 0, Items: x.boxFor(u)}
	}
	return api.Frame{Kind: api.Ask, From: 0, Items: x.ask()}
}

// keys gives the items of the Keys frame.
func (x *Server) keys() []api.Item {
	var items []api.Item
	for u, isCounted := range x.counted {
		if isCounted {
			hello := itemOf(x.items[u], u)
			items = append(items, api.Item{Id: u, A: hello.A, B: hello.B})
		}
	}
	return items
}

// boxFor gives the items of the Box frame for u: what the others have sealed
// for it.
func (x *Server) boxFor(u int) []api.Item {
	var items []api.Item
	for v, isCounted := range x.counted {
		if isCounted && v != u {
			sealed := itemOf(x.items[v], u)
			items = append(items, api.Item{Id: v, A: sealed.A, B: sealed.B, C: sealed.C})
		}
	}
	return items
}

// ask gives the items of the Ask frame.
func (x *Server) ask() []api.Item {
	var items []api.Item
	for u, isCounted := range x.counted {
		if isCounted {
			items = append(items, api.Item{Id: u})
		}
	}
	return items
}

// maskPublics gives the public mask keys of those who said Hello.
func (x *Server) maskPublics() numbers {
	var publics numbers
	for u, items := range x.items {
		publics[u] = itemOf(items, u).B
	}
	return publics
}

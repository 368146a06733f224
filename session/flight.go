package session

import "veil/api"

// Flight tells what is in flight, with bytes of its own for each parcel.
func (x *Session) Flight() []api.Parcel {
	var list []api.Parcel
	for _, p := range x.flight {
		p.Bytes = append([]byte(nil), p.Bytes...)
		list = append(list, p)
	}
	return list
}

// Deliver brings parcel number i to whom it is for.
func (x *Session) Deliver(i int) api.Errno {
	if !x.isInFlight(i) {
		return api.ErrIndex
	}
	p := x.flight[i]
	// It leaves first: the answer stands behind those that are left.
	x.remove(i)
	x.receive(p.To, p.Bytes)
	return api.OK
}

// Drop loses parcel number i.
func (x *Session) Drop(i int) api.Errno {
	if !x.isInFlight(i) {
		return api.ErrIndex
	}
	x.remove(i)
	return api.OK
}

// Double makes parcel number i twice.
func (x *Session) Double(i int) api.Errno {
	if !x.isInFlight(i) {
		return api.ErrIndex
	}
	if len(x.flight) >= api.MaxFlight {
		return api.ErrFull
	}
	x.flight = append(x.flight, x.flight[i])
	return api.OK
}

// isInFlight tells whether there is a parcel number i.
func (x *Session) isInFlight(i int) bool {
	return i >= 0 && i < len(x.flight)
}

// send puts a client's bytes for the server behind all others.
func (x *Session) send(from int, b []byte) {
	x.flight = append(x.flight, api.Parcel{From: from, To: 0, Bytes: b})
}

// remove takes parcel number i out of the flight.
func (x *Session) remove(i int) {
	var rest []api.Parcel
	for j, p := range x.flight {
		if j != i {
			rest = append(rest, p)
		}
	}
	x.flight = rest
}

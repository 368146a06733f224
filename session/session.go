// Package session: a server, its clients, and what is in flight between them
// (P15 to P17).
package session

import (
	"veil/api"
	"veil/client"
	"veil/server"
)

// Session is a server, its clients, and what is in flight between them. Client
// u is at the place u - 1. The bytes in flight are never written into, so that
// parcels that are alike may share them.
type Session struct {
	server  server.Server
	clients []client.Client
	flight  []api.Parcel
}

// New makes a session, with the Hello of each client in flight.
func New(c api.Config, draws []api.Draw) (Session, api.Errno) {
	s, e := server.New(c)
	if e != api.OK {
		return Session{}, e
	}
	if len(draws) != c.N {
		return Session{}, api.ErrDraw
	}
	x := Session{server: s}
	for i, d := range draws {
		u, refusal := client.New(c, i+1, d)
		if refusal != api.OK {
			return Session{}, refusal
		}
		hello := u.Hello()
		x.clients = append(x.clients, u)
		x.send(i+1, hello)
	}
	return x, api.OK
}

// Outcome tells how it stands.
func (x *Session) Outcome() api.Outcome {
	return x.server.Outcome()
}

// Released tells which shares client u has told.
func (x *Session) Released(u int) []api.Item {
	if !x.isClient(u) {
		return nil
	}
	return x.clients[u-1].Released()
}

// isClient tells whether u is one of the session's clients.
func (x *Session) isClient(u int) bool {
	return u >= 1 && u <= len(x.clients)
}

// Crash ends client u.
func (x *Session) Crash(u int) api.Errno {
	if !x.isClient(u) {
		return api.ErrIndex
	}
	x.clients[u-1].Crash()
	return api.OK
}

// Inject brings bytes that nobody sent.
func (x *Session) Inject(to int, b []byte) api.Errno {
	if to != 0 && !x.isClient(to) {
		return api.ErrIndex
	}
	x.receive(to, b)
	return api.OK
}

// Tick lets a unit of time go by.
func (x *Session) Tick() {
	parcels := x.server.Tick()
	x.flight = append(x.flight, parcels...)
}

// receive lets the client of this number take the bytes, or the server if
// there is none.
func (x *Session) receive(to int, b []byte) {
	if !x.isClient(to) {
		x.server.Take(b)
		return
	}
	answer := x.clients[to-1].Take(b)
	if answer != nil {
		x.send(to, answer)
	}
}

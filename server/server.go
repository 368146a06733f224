// Package server: the one that adds the masked lists up (P12 to P14).
package server

import (
	"veil/api"
	"veil/bounds"
)

// The rounds, by the kind of frame that they want.
const (
	wantsHello  = 0
	wantsShares = 1
	wantsMasked = 2
	wantsTell   = 3
)

// Server adds the masked lists up. What it has counted is let go of as soon as
// no later round needs it; with the outcome nothing else is left.
type Server struct {
	config  api.Config
	time    int
	round   int
	senders members   // of whom the round may count a frame: in round 3 U2
	counted members   // of whom it has counted one
	items   itemLists // of the frames that it has counted
	publics numbers   // of U0, the B of each Hello: from round 1 on
	sharers members   // U1: from round 2 on
	masked  []int     // the sum of the masked lists: from round 3 on
	outcome api.Outcome
}

// New makes a server.
func New(c api.Config) (Server, api.Errno) {
	if !bounds.Config(c) {
		return Server{}, api.ErrConfig
	}
	return Server{config: c, senders: firstMembers(c.N)}, api.OK
}

// Outcome tells how it stands.
func (x *Server) Outcome() api.Outcome {
	o := x.outcome
	o.Set = append([]int(nil), o.Set...)
	o.Sum = append([]int(nil), o.Sum...)
	return o
}

// isPending tells whether the outcome is still to come.
func (x *Server) isPending() bool {
	return x.outcome.State == api.Pending
}

// stop ends it all, because too few have stayed.
func (x *Server) stop() {
	*x = Server{outcome: api.Outcome{State: api.Stopped, Round: x.round}}
}

// finish ends it all with the sum.
func (x *Server) finish() {
	set := listed(x.senders)
	sum := x.unmasked()
	*x = Server{outcome: api.Outcome{State: api.Done, Set: set, Sum: sum}}
}

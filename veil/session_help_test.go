package veil_test

import (
	"math/rand"
	"slices"
	"testing"

	"veil/api"
	"veil/veil"
)

// plainSession is a session as the document words it.
type plainSession struct {
	config  api.Config
	server  *plainServer
	clients []*plainClient // number u is at the place u - 1
	crashed map[int]bool
	flight  []api.Parcel
}

func newPlainSession(c api.Config, draws []api.Draw) *plainSession {
	p := &plainSession{config: c, server: newPlainServer(c), crashed: map[int]bool{}}
	for i, d := range draws {
		x := newPlain(c, i+1, d)
		p.clients = append(p.clients, x)
		p.flight = append(p.flight, api.Parcel{From: i + 1, Bytes: x.hello()})
	}
	return p
}

func (p *plainSession) receive(to int, b []byte) {
	if to == 0 {
		p.server.take(b)
	} else if !p.crashed[to] {
		if answer := p.clients[to-1].take(b); answer != nil {
			p.flight = append(p.flight, api.Parcel{From: to, Bytes: answer})
		}
	}
}

func (p *plainSession) deliver(i int) api.Errno {
	if i < 0 || i >= len(p.flight) {
		return api.ErrIndex
	}
	x := p.flight[i]
	p.drop(i)
	p.receive(x.To, x.Bytes)
	return api.OK
}

func (p *plainSession) drop(i int) api.Errno {
	if i < 0 || i >= len(p.flight) {
		return api.ErrIndex
	}
	p.flight = slices.Delete(p.flight, i, i+1)
	return api.OK
}

func (p *plainSession) double(i int) api.Errno {
	if i < 0 || i >= len(p.flight) {
		return api.ErrIndex
	}
	if len(p.flight) >= 200 {
		return api.ErrFull
	}
	p.flight = append(p.flight, p.flight[i])
	return api.OK
}

func (p *plainSession) inject(to int, b []byte) api.Errno {
	if to < 0 || to > p.config.N {
		return api.ErrIndex
	}
	p.receive(to, b)
	return api.OK
}

func (p *plainSession) crash(u int) api.Errno {
	if u < 1 || u > p.config.N {
		return api.ErrIndex
	}
	p.crashed[u] = true
	return api.OK
}

func (p *plainSession) released(u int) []api.Item {
	if u < 1 || u > p.config.N {
		return nil
	}
	return p.clients[u-1].released
}

// sessionPair is a session, and what the document says of it.
type sessionPair struct {
	real  *veil.Session
	plain *plainSession
}

func sessionFor(t *testing.T, c api.Config, draws []api.Draw) sessionPair {
	t.Helper()
	x, e := veil.NewSession(c, draws)
	if x == nil || e != api.OK {
		t.Fatalf("P15: NewSession(%v, %v) = %v, %d", c, draws, x, e)
	}
	p := sessionPair{x, newPlainSession(c, draws)}
	p.check(t)
	return p
}

// drawsOf draws a draw for each client.
func drawsOf(r *rand.Rand, c api.Config) []api.Draw {
	var draws []api.Draw
	for range c.N {
		draws = append(draws, drawOf(r, c))
	}
	return draws
}

// sameFlight: the document leaves it open whether an empty list is nil.
func sameFlight(l, want []api.Parcel) bool {
	return len(l) == 0 && len(want) == 0 || sameParcels(l, want)
}

// check compares all that a session shows.
func (p sessionPair) check(t *testing.T) {
	t.Helper()
	if l := p.real.Flight(); !sameFlight(l, p.plain.flight) {
		t.Errorf("P15, P16: Flight() = %v, want %v", l, p.plain.flight)
	}
	if o := p.real.Outcome(); !sameOutcome(o, p.plain.server.outcome) {
		t.Errorf("P16: Outcome() = %v at time %d of %v, want %v", o, p.plain.server.time, p.plain.config, p.plain.server.outcome)
	}
	for u := -1; u <= p.plain.config.N+1; u++ {
		l, want := p.real.Released(u), p.plain.released(u)
		if !slices.Equal(l, want) || (l == nil) != (want == nil) {
			t.Errorf("P16: Released(%d) = %v, want %v", u, l, want)
		}
	}
}

// answers compares what a call answered, and how all stands then.
func (p sessionPair) answers(t *testing.T, call string, i int, e, want api.Errno) {
	t.Helper()
	if e != want {
		t.Errorf("P16: %s(%d) = %d with %d in flight and %d clients, want %d", call, i, e, len(p.plain.flight), p.plain.config.N, want)
	}
	p.check(t)
}

func (p sessionPair) deliver(t *testing.T, i int) {
	t.Helper()
	want := p.plain.deliver(i)
	p.answers(t, "Deliver", i, p.real.Deliver(i), want)
}

func (p sessionPair) drop(t *testing.T, i int) {
	t.Helper()
	want := p.plain.drop(i)
	p.answers(t, "Drop", i, p.real.Drop(i), want)
}

func (p sessionPair) double(t *testing.T, i int) {
	t.Helper()
	want := p.plain.double(i)
	p.answers(t, "Double", i, p.real.Double(i), want)
}

func (p sessionPair) inject(t *testing.T, to int, b []byte) {
	t.Helper()
	want := p.plain.inject(to, b)
	p.answers(t, "Inject", to, p.real.Inject(to, b), want)
}

func (p sessionPair) crash(t *testing.T, u int) {
	t.Helper()
	want := p.plain.crash(u)
	p.answers(t, "Crash", u, p.real.Crash(u), want)
}

func (p sessionPair) tick(t *testing.T) {
	t.Helper()
	p.plain.flight = append(p.plain.flight, p.plain.server.tick()...)
	p.real.Tick()
	p.check(t)
}

// ends lets time go by till the round is over.
func (p sessionPair) ends(t *testing.T) {
	t.Helper()
	for range p.plain.config.D {
		p.tick(t)
	}
}

// deliversAll delivers what is in flight and the answers to it, till nothing
// is left.
func (p sessionPair) deliversAll(t *testing.T) {
	t.Helper()
	for len(p.plain.flight) > 0 {
		p.deliver(t, 0)
	}
}

// goesOn loses and crashes nothing any more, till it is over; what no call
// shows of the server and of the clients comes to light then.
func (p sessionPair) goesOn(t *testing.T) {
	t.Helper()
	for p.plain.server.outcome.State == api.Pending {
		p.deliversAll(t)
		p.ends(t)
	}
	p.deliversAll(t)
}

// stands: the outcome is this one, whatever the plain session says.
func (p sessionPair) stands(t *testing.T, want api.Outcome) {
	t.Helper()
	if o := p.real.Outcome(); !sameOutcome(o, want) {
		t.Errorf("P16, P17: Outcome() = %v, want %v", o, want)
	}
}

// flies: what is in flight is this, whatever the plain session says.
func (p sessionPair) flies(t *testing.T, want []api.Parcel) {
	t.Helper()
	if l := p.real.Flight(); !sameFlight(l, want) {
		t.Errorf("P16: Flight() = %v, want %v", l, want)
	}
}

// moment is a session on its way.
type moment struct {
	name  string
	begin func(t *testing.T) sessionPair
}

// momentConfig is that of all moments.
var momentConfig = api.Config{N: 3, T: 2, M: 2, D: 2}

func momentDraws() []api.Draw { return drawsOf(rand.New(rand.NewSource(70)), momentConfig) }

// atRound begins with all that the server sends at the beginning of a round in
// flight: Hellos, Keys, Boxes or Asks.
func atRound(t *testing.T, round int) sessionPair {
	t.Helper()
	p := sessionFor(t, momentConfig, momentDraws())
	for range round {
		p.deliversAll(t)
		p.ends(t)
	}
	return p
}

// moments gives sessions in each round, with all in flight that can be there:
// to the server, to clients, to clients that have crashed or halted, parcels
// that are late, and parcels that are there twice.
func moments() []moment {
	list := []moment{
		{"done", func(t *testing.T) sessionPair { return atRound(t, 4) }},
		{"stopped", func(t *testing.T) sessionPair {
			p := sessionFor(t, momentConfig, momentDraws())
			p.deliver(t, 1)
			p.ends(t)
			return p
		}},
	}
	for round, name := range []string{"Hello", "Keys", "Box", "Ask"} {
		at := func(t *testing.T) sessionPair {
			t.Helper()
			p := atRound(t, round)
			for i := range 3 {
				p.double(t, 2-i)
			}
			return p
		}
		list = append(list, moment{name, at})
		list = append(list, moment{name + ", one crashed", func(t *testing.T) sessionPair {
			p := at(t)
			p.crash(t, 2)
			return p
		}})
		list = append(list, moment{name + ", some answered", func(t *testing.T) sessionPair {
			p := at(t)
			p.deliver(t, 1)
			p.deliver(t, 1)
			p.double(t, len(p.plain.flight)-1)
			return p
		}})
		list = append(list, moment{name + ", late", func(t *testing.T) sessionPair {
			p := at(t)
			p.deliver(t, 0)
			p.deliver(t, 1)
			if round > 0 {
				p.deliver(t, len(p.plain.flight)-1)
				p.deliver(t, len(p.plain.flight)-1)
			}
			p.ends(t)
			return p
		}})
	}
	return list
}

// inEachMoment tries something at each moment. It begins anew, as often as it
// is to be tried.
func inEachMoment(t *testing.T, try func(t *testing.T, begin func() sessionPair)) {
	for _, m := range moments() {
		t.Run(m.name, func(t *testing.T) {
			try(t, func() sessionPair { return m.begin(t) })
		})
	}
}

package veil_test

import (
	"bytes"
	"math/rand"
	"slices"
	"testing"

	"veil/api"
	"veil/veil"
)

// TestAnySessions (P1): NewSession ends at all numbers and lists, and gives
// either a session or an error.
func TestAnySessions(t *testing.T) {
	r := rand.New(rand.NewSource(100))
	number := func() int { return anyNumbers[r.Intn(len(anyNumbers))] }
	var ends [9]int
	for range 30000 {
		c := api.Config{N: number(), T: number(), M: number(), D: number()}
		if r.Intn(2) == 0 {
			c = api.Config{N: 3, T: 2, M: 2, D: 1}
		}
		draws := make([]api.Draw, r.Intn(5))
		for i := range draws {
			draws[i] = api.Draw{Input: []int{1, 2}, Mask: 4, Seed: 5, SplitMask: []int{6}, SplitSeed: []int{7}}
			if r.Intn(4) == 0 {
				draws[i].Channel = number()
				draws[i].Input[r.Intn(2)] = number()
			}
		}
		x, e := veil.NewSession(c, draws)
		if (x == nil) == (e == api.OK) || e != api.OK && e != api.ErrConfig && e != api.ErrDraw {
			t.Errorf("P1: NewSession(%v, %v) = %v, %d", c, draws, x, e)
		}
		ends[e]++
	}
	if min(ends[api.OK], ends[api.ErrConfig], ends[api.ErrDraw]) < 1000 {
		t.Errorf("NewSession answered %v", ends)
	}
}

// TestAnyCalls (P1): at all numbers and bytes each call ends, and does what the
// document says.
func TestAnyCalls(t *testing.T) {
	inEachMoment(t, func(t *testing.T, begin func() sessionPair) {
		p := begin()
		for _, i := range anyNumbers {
			p.drop(t, i)
			p.double(t, i)
			p.deliver(t, i)
			for _, b := range [][]byte{nil, {}, {1}, bytes.Repeat([]byte{255}, 300)} {
				p.inject(t, i, b)
			}
			want := p.plain.released(i)
			if l := p.real.Released(i); !slices.Equal(l, want) {
				t.Errorf("P16: Released(%d) = %v, want %v", i, l, want)
			}
		}
		p.crash(t, 3)
		p.crash(t, most)
		p.crash(t, least)
		p.goesOn(t)
	})
}

// TestDrawsOfSessionsAreNotWrittenInto (P2): neither the list of draws, nor
// the lists of a draw, nor the spare room of all.
func TestDrawsOfSessionsAreNotWrittenInto(t *testing.T) {
	given := append(momentDraws(), momentDraws()[:2]...)
	var draws []api.Draw
	var rooms [][][]int
	for _, g := range given {
		d, room := roomOf(g)
		draws = append(draws, d)
		rooms = append(rooms, room)
	}
	sessionFor(t, momentConfig, draws[:3]).goesOn(t)
	checkNoSession(t, momentConfig, draws[:2], api.ErrDraw)
	for i, d := range draws {
		checkRooms(t, rooms[i], given[i])
		if !sameDraw(d, given[i]) {
			t.Errorf("P2: a session made the draw %d %v, want %v", i, d, given[i])
		}
	}
}

func sameDraw(d, want api.Draw) bool {
	lists := same(d.Input, want.Input) && same(d.SplitMask, want.SplitMask) && same(d.SplitSeed, want.SplitSeed)
	return lists && d.Channel == want.Channel && d.Mask == want.Mask && d.Seed == want.Seed
}

// TestDrawsOfSessionsAreNotKept (P2): whenever the draws and their lists are
// written into, all goes on as if they had not been.
func TestDrawsOfSessionsAreNotKept(t *testing.T) {
	for when := range 4 {
		draws := momentDraws()
		p := sessionFor(t, momentConfig, draws)
		for round := range 4 {
			if round == when {
				for i := range draws {
					scrawl(draws[i].Input)
					scrawl(draws[i].SplitMask)
					scrawl(draws[i].SplitSeed)
					draws[i] = api.Draw{Channel: 5, Mask: 6, Seed: 7}
				}
			}
			p.deliversAll(t)
			p.ends(t)
		}
		p.stands(t, added(momentConfig, momentDraws(), upTo(3)))
	}
}

// TestDrawsThatShareRoom (P2): clients may have the same lists.
func TestDrawsThatShareRoom(t *testing.T) {
	d := momentDraws()[0]
	draws := []api.Draw{d, d, d}
	p := sessionFor(t, momentConfig, draws)
	p.goesOn(t)
	p.stands(t, added(momentConfig, draws, upTo(3)))
}

// TestInjectedBytesAreTheCallers (P2): they are not written into, nor what
// stands behind them; and when they are written into later, nothing hangs on
// that.
func TestInjectedBytesAreTheCallers(t *testing.T) {
	inEachMoment(t, func(t *testing.T, begin func() sessionPair) {
		for to := -1; to <= 4; to++ {
			p := begin()
			for _, b := range forged(p) {
				room := append(slices.Clone(b), 9, 8, 7)
				before := bytes.Clone(room)
				p.inject(t, to, room[:len(b)])
				if !bytes.Equal(room, before) {
					t.Errorf("P2: Inject(%d, %v) left %v behind", to, b, room)
				}
				scrawlBytes(room)
				p.check(t)
			}
			p.goesOn(t)
		}
	})
}

// TestFlightsAreFresh (P2): a caller that writes into a flight, into the bytes
// of its parcels or into their spare room changes no other parcel, no other
// flight, and nothing that comes later.
func TestFlightsAreFresh(t *testing.T) {
	inEachMoment(t, func(t *testing.T, begin func() sessionPair) {
		p := begin()
		for range 6 {
			kept := p.real.Flight()
			want := copiedParcels(kept)
			l := p.real.Flight()
			for i := range l {
				before := copiedParcels(l)
				scrawlBytes(l[i].Bytes)
				before[i].Bytes = l[i].Bytes
				if !sameFlight(l, before) {
					t.Errorf("P2: writing into parcel %d made them %v, want %v", i, l, before)
				}
			}
			scrawlParcels(l)
			if !sameFlight(kept, want) {
				t.Errorf("P2: writing into a flight made another one %v, want %v", kept, want)
			}
			p.check(t)
			p.deliver(t, 0)
			p.double(t, 0)
			p.drop(t, 1)
			p.tick(t)
			if !sameFlight(kept, want) {
				t.Errorf("P2: later calls made a flight %v, want %v", kept, want)
			}
		}
		p.goesOn(t)
	})
}

// TestDoubledParcelsAreAlone (P2): those that are alike share no bytes.
func TestDoubledParcelsAreAlone(t *testing.T) {
	p := atRound(t, 1)
	p.double(t, 0)
	p.double(t, 3)
	for _, written := range []int{0, 3, 4} {
		l := p.real.Flight()
		want := copiedParcels(l)
		scrawlBytes(l[written].Bytes)
		for _, i := range []int{0, 3, 4} {
			if i != written && !bytes.Equal(l[i].Bytes, want[i].Bytes) {
				t.Errorf("P2: writing into parcel %d made %d %v", written, i, l[i])
			}
		}
		p.check(t)
	}
	p.goesOn(t)
	p.stands(t, added(momentConfig, momentDraws(), upTo(3)))
}

// TestWhatASessionTellsIsFresh (P2): a caller that writes into an outcome or
// into what was released changes no other one, and none that comes later.
func TestWhatASessionTellsIsFresh(t *testing.T) {
	p := atRound(t, 4)
	want := added(momentConfig, momentDraws(), upTo(3))
	kept := p.real.Outcome()
	other := p.real.Outcome()
	scrawl(other.Set)
	scrawl(other.Sum)
	if !sameOutcome(kept, want) {
		t.Errorf("P2: writing into an outcome made another one %v", kept)
	}
	p.stands(t, want)
	for u := 1; u <= 3; u++ {
		released := p.real.Released(u)
		scrawlItems(p.real.Released(u))
		p.crash(t, u)
		scrawlItems(p.real.Released(u))
		if !slices.Equal(released, p.plain.released(u)) {
			t.Errorf("P2: writing into Released(%d) made it %v", u, released)
		}
		p.check(t)
	}
}

// TestSessionsAlone (P2): what is done to one session is nothing to another, be
// it of the same draws or of others.
func TestSessionsAlone(t *testing.T) {
	draws := momentDraws()
	others := drawsOf(rand.New(rand.NewSource(101)), momentConfig)
	first, second, third := sessionFor(t, momentConfig, draws), sessionFor(t, momentConfig, draws), sessionFor(t, momentConfig, others)
	idle := sessionFor(t, momentConfig, draws)
	second.crash(t, 1)
	second.drop(t, 2)
	for range 4 {
		first.deliversAll(t)
		third.deliver(t, 0)
		second.deliversAll(t)
		second.ends(t)
		first.ends(t)
		third.deliversAll(t)
		idle.check(t)
		third.ends(t)
		first.check(t)
	}
	first.stands(t, added(momentConfig, draws, upTo(3)))
	second.stands(t, api.Outcome{State: api.Stopped, Round: 1})
	third.stands(t, added(momentConfig, others, upTo(3)))
	idle.stands(t, api.Outcome{})
	idle.goesOn(t)
	idle.stands(t, added(momentConfig, draws, upTo(3)))
	first.check(t)
}

// TestOnlyWhatWasDone (P2): two sessions to which the same was done show the
// same, whatever was asked or refused in between.
func TestOnlyWhatWasDone(t *testing.T) {
	quiet, asked := atRound(t, 1), atRound(t, 1)
	for range 30 {
		for _, i := range []int{-1, 999, most} {
			asked.deliver(t, i)
			asked.drop(t, i)
			asked.double(t, i)
			asked.crash(t, i)
			asked.inject(t, i, []byte{6, 0, 1, 1})
		}
		quiet.deliver(t, 1)
		quiet.tick(t)
		asked.deliver(t, 1)
		asked.tick(t)
		if l, want := asked.real.Flight(), quiet.real.Flight(); !sameFlight(l, want) {
			t.Errorf("P2: Flight() = %v, want %v", l, want)
		}
		asked.stands(t, quiet.real.Outcome())
	}
}

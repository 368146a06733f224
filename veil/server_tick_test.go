package veil_test

import (
	"math/rand"
	"testing"

	"veil/api"
)

// sent is a parcel that a server is to send.
func sent(to int, f api.Frame) api.Parcel {
	return api.Parcel{To: to, Bytes: plainBytes(f)}
}

// sends: the round ends now, with these parcels.
func (p serverPair) sends(t *testing.T, want ...api.Parcel) {
	t.Helper()
	if l := p.ends(t); !sameParcels(l, want) {
		t.Errorf("P13: the parcels are %v, want %v", l, want)
	}
}

// TestParcels (P13): those of each round, number for number.
func TestParcels(t *testing.T) {
	p := serverFor(t, api.Config{N: 5, T: 2, M: 2, D: 3})
	for _, f := range []api.Frame{
		frameOf(api.Hello, 5, 5, 51, 52, 0), frameOf(api.Hello, 1, 1, 11, 12, 0),
		frameOf(api.Hello, 4, 4, last, 42, 0), frameOf(api.Hello, 2, 2, 21, last, 0),
	} {
		p.counts(t, f)
	}
	keys := frameOf(api.Keys, 0, 1, 11, 12, 0, 2, 21, last, 0, 4, last, 42, 0, 5, 51, 52, 0)
	p.sends(t, sent(1, keys), sent(2, keys), sent(4, keys), sent(5, keys))
	for _, f := range []api.Frame{
		frameOf(api.Shares, 4, 1, 410, 411, 412, 2, 420, 421, 422, 5, 450, 451, 452),
		frameOf(api.Shares, 1, 2, 120, 121, 122, 4, 140, 141, 142, 5, 150, 151, 152),
		frameOf(api.Shares, 5, 1, 510, 511, 512, 2, 520, 521, 522, 4, 0, last, 542),
	} {
		p.counts(t, f)
	}
	p.sends(t,
		sent(1, frameOf(api.Box, 0, 4, 410, 411, 412, 5, 510, 511, 512)),
		sent(4, frameOf(api.Box, 0, 1, 140, 141, 142, 5, 0, last, 542)),
		sent(5, frameOf(api.Box, 0, 1, 150, 151, 152, 4, 450, 451, 452)))
	p.counts(t, frameOf(api.Masked, 5, 1, 3, 0, 0, 2, 4, 0, 0))
	p.counts(t, frameOf(api.Masked, 4, 1, 5, 0, 0, 2, 6, 0, 0))
	ask := frameOf(api.Ask, 0, 4, 0, 0, 0, 5, 0, 0, 0)
	p.sends(t, sent(4, ask), sent(5, ask))
	p.counts(t, frameOf(api.Tell, 4, 1, 2, 1, 0, 4, 1, 2, 0, 5, 1, 3, 0))
	p.counts(t, frameOf(api.Tell, 5, 1, 2, 4, 0, 4, 1, 5, 0, 5, 1, 6, 0))
	p.sends(t)
}

// TestParcelsToOne (P13): a single client, to whom an empty box goes.
func TestParcelsToOne(t *testing.T) {
	p := serverFor(t, api.Config{N: 12, T: 1, M: 1, D: 1})
	p.counts(t, frameOf(api.Hello, 12, 12, 3, 4, 0))
	p.sends(t, sent(12, frameOf(api.Keys, 0, 12, 3, 4, 0)))
	p.counts(t, frameOf(api.Shares, 12))
	p.sends(t, sent(12, frameOf(api.Box, 0)))
	p.counts(t, frameOf(api.Masked, 12, 1, 9, 0, 0))
	p.sends(t, sent(12, frameOf(api.Ask, 0, 12, 0, 0, 0)))
	p.counts(t, frameOf(api.Tell, 12, 12, 1, 5, 0))
	p.sends(t)
}

// TestTimes (P13): for each D, a round takes D ticks; what comes at any time of
// it is counted, and nothing is sent before its last tick.
func TestTimes(t *testing.T) {
	all := []int{1, 2}
	for d := 1; d <= 50; d++ {
		k := courseOf(rand.New(rand.NewSource(44)), api.Config{N: 2, T: 2, M: 1, D: d}, [4][]int{all, all, all, all})
		for _, at := range []int{0, 1, d / 2, d - 1} {
			p := serverFor(t, k.group.config)
			for time := 0; time < 4*d; time++ {
				p.stands(t, api.Outcome{})
				if time%d == at%d {
					k.sends(t, p, time/d)
				}
				l := p.tick(t)
				if (len(l) == 2) != (time%d == d-1 && time < 3*d) {
					t.Errorf("P13: %d parcels at time %d of rounds of %d", len(l), time+1, d)
				}
			}
			p.stands(t, k.wanted())
		}
	}
}

// TestLateFrames (P12, P13): what comes when its round is over is not counted,
// and what comes before its round begins neither.
func TestLateFrames(t *testing.T) {
	k := countCourse()
	for round := range 3 {
		p := k.at(t, round)
		k.sends(t, p, round)
		p.tick(t)
		for u := range k.frames[round+1] {
			p.leaves(t, plainBytes(k.frames[round+1][u]))
		}
		p.tick(t)
		for u := range k.frames[round] {
			p.leaves(t, plainBytes(k.frames[round][u]))
		}
		k.goesOn(t, p, round+1, 4)
		p.stands(t, k.wanted())
	}
}

// nothingMore: ticks give nil, and change nothing.
func (p serverPair) nothingMore(t *testing.T) {
	t.Helper()
	before := p.real.Outcome()
	for range 230 {
		if l := p.real.Tick(); l != nil {
			t.Errorf("P13: Tick() = %v though the outcome is %v", l, before)
		}
		p.stands(t, before)
	}
	p.tick(t)
}

// TestTooFew (P13): in each round, for each T, one less than T stop it, and T
// do not.
func TestTooFew(t *testing.T) {
	r := rand.New(rand.NewSource(45))
	for top := 1; top <= 12; top++ {
		least := fewest(top, 12, 12)
		k := courseOf(r, api.Config{N: 12, T: top, M: 1, D: 2}, [4][]int{upTo(12), least, least, least})
		for round := range 4 {
			p := k.at(t, round)
			for _, u := range fewest(top, 12, 12)[1:] {
				p.counts(t, k.frames[round][u])
			}
			p.tick(t)
			p.stands(t, api.Outcome{})
			if l := p.tick(t); l != nil {
				t.Errorf("P13: Tick() = %v with %d of %d", l, top-1, top)
			}
			p.stands(t, api.Outcome{State: api.Stopped, Round: round})
			p.nothingMore(t)
		}
		p := k.at(t, 4)
		p.stands(t, k.wanted())
		p.nothingMore(t)
		k.stay[0] = least
		k = courseOf(r, k.group.config, k.stay)
		k.at(t, 4).stands(t, k.wanted())
	}
}

// TestNobodyComes (P13): it stops at the end of round 0, for each D.
func TestNobodyComes(t *testing.T) {
	for d := 1; d <= 50; d++ {
		p := serverFor(t, api.Config{N: 12, T: 1, M: 1, D: d})
		for range d {
			p.stands(t, api.Outcome{})
			p.tick(t)
		}
		p.stands(t, api.Outcome{State: api.Stopped})
		p.nothingMore(t)
	}
}

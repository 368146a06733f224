package veil_test

import (
	"math/rand"
	"slices"
	"testing"

	"veil/api"
)

// strangers are numbers of none of the three clients of a moment.
var strangers = []int{least, -1 << 32, -3, -2, -1, 4, 5, 12, 13, 1<<32 + 1, most - 1, most}

// forged gives bytes of each kind that fit a moment, some that nearly do, and
// some that are none of a frame's.
func forged(p sessionPair) [][]byte {
	list := [][]byte{nil, {}, {0}, {2, 0, 0}, {6, 0, 1, 1, 0}, {3, 1, 1}, make([]byte, 1000)}
	keys := api.Frame{Kind: api.Keys}
	for _, x := range p.plain.clients {
		keys.Items = append(keys.Items, x.public())
		list = append(list, x.hello())
	}
	list = append(list, bytesOf(keys, without(keys, 1), frameOf(api.Box, 0), frameOf(api.Box, 0, 3, 1, 2, 3))...)
	list = append(list, bytesOf(askOf(1, 2, 3), askOf(1, 2), askOf(2, 3), askOf(2))...)
	shares := frameOf(api.Shares, 4, 1, 2, 3, 4, 2, 3, 4, 5, 3, 4, 5, 6)
	for u := 1; u <= 4; u++ {
		masked := frameOf(api.Masked, u, 1, 5, 0, 0, 2, 6, 0, 0)
		tell := frameOf(api.Tell, u, 1, 1, 7, 0, 2, 1, 8, 0, 3, 1, 9, 0)
		list = append(list, bytesOf(frameOf(api.Hello, u, u, 5, 6, 0), sentBy(shares, u), masked, tell)...)
	}
	for _, x := range p.plain.flight {
		list = append(list, x.Bytes)
	}
	return list
}

// TestInjectedToAll (P16): whoever it is to receives it as if it were
// delivered, and all that is in flight stays there.
func TestInjectedToAll(t *testing.T) {
	answered, silent := 0, 0
	inEachMoment(t, func(t *testing.T, begin func() sessionPair) {
		for to := range 4 {
			for i := range forged(begin()) {
				p := begin()
				before := copiedParcels(p.plain.flight)
				p.inject(t, to, forged(p)[i])
				l := p.real.Flight()
				if len(l) > len(before) && to > 0 {
					answered++
					if x := l[len(l)-1]; x.From != to || x.To != 0 || int(x.Bytes[1]) != to {
						t.Errorf("P16: %d answers %v", to, x)
					}
					l = l[:len(before)]
				} else {
					silent++
				}
				if !sameFlight(l, before) {
					t.Errorf("P16: behind Inject(%d, ..) there were %v, want %v", to, l, before)
				}
				p.goesOn(t)
			}
		}
	})
	if min(answered, silent) < 50 {
		t.Errorf("%d were answered, %d not", answered, silent)
	}
}

// TestInjectedToStrangers (P16, P1): nothing is changed, whatever the bytes
// are.
func TestInjectedToStrangers(t *testing.T) {
	inEachMoment(t, func(t *testing.T, begin func() sessionPair) {
		p := begin()
		before := copiedParcels(p.plain.flight)
		for _, to := range strangers {
			for _, b := range forged(p) {
				p.answers(t, "Inject", to, p.real.Inject(to, b), api.ErrIndex)
			}
		}
		p.flies(t, before)
		p.goesOn(t)
	})
}

// TestWhoMayReceive (P16): 0 to N, for each N.
func TestWhoMayReceive(t *testing.T) {
	r := rand.New(rand.NewSource(80))
	for n := 1; n <= 12; n++ {
		c := api.Config{N: n, T: 1, M: 1, D: 1}
		p := sessionFor(t, c, drawsOf(r, c))
		for u := -2; u <= 15; u++ {
			inject, crash := api.OK, api.OK
			if u < 0 || u > n {
				inject = api.ErrIndex
			}
			if u < 1 || u > n {
				crash = api.ErrIndex
			}
			p.answers(t, "Inject", u, p.real.Inject(u, nil), inject)
			p.answers(t, "Crash", u, p.real.Crash(u), crash)
			p.plain.crash(u)
			p.answers(t, "Crash", u, p.real.Crash(u), crash)
		}
		p.goesOn(t)
		p.stands(t, api.Outcome{State: api.Stopped, Round: 1})
	}
}

// TestEachClientCrashes (P16): once or twice, it receives nothing any more;
// what is in flight stays there, and what it has told stays told.
func TestEachClientCrashes(t *testing.T) {
	inEachMoment(t, func(t *testing.T, begin func() sessionPair) {
		for u := 1; u <= 3; u++ {
			for times := 1; times <= 2; times++ {
				p := begin()
				before := copiedParcels(p.plain.flight)
				told := p.real.Released(u)
				for range times {
					p.crash(t, u)
				}
				for _, b := range forged(p) {
					p.inject(t, u, b)
				}
				p.flies(t, before)
				p.goesOn(t)
				if l := p.real.Released(u); !slices.Equal(l, told) {
					t.Errorf("P16: Released(%d) = %v of who has crashed, want %v", u, l, told)
				}
			}
		}
	})
}

// TestCrashOfNone (P16, P1): nothing is changed.
func TestCrashOfNone(t *testing.T) {
	inEachMoment(t, func(t *testing.T, begin func() sessionPair) {
		p := begin()
		for _, u := range append([]int{0}, strangers...) {
			p.answers(t, "Crash", u, p.real.Crash(u), api.ErrIndex)
		}
		p.goesOn(t)
	})
}

// TestParcelsToWhoHasCrashed (P16): they leave the flight, and nothing comes
// of it, whichever client it is and whenever it crashed.
func TestParcelsToWhoHasCrashed(t *testing.T) {
	for u := 1; u <= 3; u++ {
		for round := 1; round <= 3; round++ {
			p := atRound(t, round)
			p.crash(t, u)
			want := slices.Delete(copiedParcels(p.plain.flight), u-1, u)
			p.deliver(t, u-1)
			p.flies(t, want)
			p.goesOn(t)
			if l := p.real.Released(u); l != nil {
				t.Errorf("P16: Released(%d) = %v, want nil", u, l)
			}
			set := upTo(3)
			if round < 3 {
				set = slices.Delete(set, u-1, u)
			}
			p.stands(t, added(momentConfig, momentDraws(), set))
		}
	}
}

// TestSentBeforeTheCrash (P16): what a client has sent arrives though it has
// crashed.
func TestSentBeforeTheCrash(t *testing.T) {
	for u := 1; u <= 3; u++ {
		p := atRound(t, 0)
		p.crash(t, u)
		p.deliversAll(t)
		p.ends(t)
		if l := p.real.Flight(); len(l) != 3 {
			t.Errorf("P16: %v are in flight, want Keys for all three", l)
		}
		p = atRound(t, 2)
		for range 3 {
			p.deliver(t, 0)
		}
		p.crash(t, u)
		p.goesOn(t)
		p.stands(t, added(momentConfig, momentDraws(), upTo(3)))
	}
}

// TestReleased (P16): nil till a client has answered an Ask, and of numbers
// that are no client's at any time; a crash takes nothing away.
func TestReleased(t *testing.T) {
	p := atRound(t, 3)
	told := func(want ...int) {
		t.Helper()
		for u := 1; u <= 3; u++ {
			l := p.real.Released(u)
			if (l != nil) != slices.Contains(want, u) {
				t.Errorf("P16: Released(%d) = %v, though %v have told", u, l, want)
			}
			for i, x := range l {
				if x.Id != i+1 || x.A != 1 || len(l) != 3 || x.B != p.plain.clients[i].sharesFor(u)[1] {
					t.Errorf("P16: Released(%d) = %v", u, l)
				}
			}
		}
		for _, u := range append([]int{0}, strangers...) {
			if l := p.real.Released(u); l != nil {
				t.Errorf("P16: Released(%d) = %v, want nil", u, l)
			}
		}
	}
	told()
	p.deliver(t, 1)
	told(2)
	p.crash(t, 2)
	told(2)
	p.crash(t, 3)
	p.deliver(t, 1)
	told(2)
	p.deliver(t, 0)
	told(1, 2)
	p.crash(t, 1)
	p.goesOn(t)
	told(1, 2)
}

// TestTickWithParcelsInFlight (P16): the server's own stand behind them, by
// rising To.
func TestTickWithParcelsInFlight(t *testing.T) {
	for round := range 3 {
		p := atRound(t, round)
		for len(p.plain.flight) > 0 && p.plain.flight[0].To > 0 {
			p.deliver(t, 0)
		}
		for i := range 3 {
			p.double(t, 2-i)
		}
		for range 3 {
			p.deliver(t, 0)
		}
		before := copiedParcels(p.plain.flight)
		p.tick(t)
		p.flies(t, before)
		p.tick(t)
		l := p.real.Flight()
		if len(l) != 6 || !sameFlight(l[:3], before) {
			t.Fatalf("P16: %v are in flight, want %v before three others", l, before)
		}
		for i, x := range l[3:] {
			if x.From != 0 || x.To != i+1 || int(x.Bytes[0]) != 2*round+2 {
				t.Errorf("P16: parcel %d is %v", i+3, x)
			}
		}
		p.goesOn(t)
	}
}

// TestTickAtTheEnd (P16, P17): nothing is sent any more, and the outcome stays.
func TestTickAtTheEnd(t *testing.T) {
	inEachMoment(t, func(t *testing.T, begin func() sessionPair) {
		p := begin()
		for p.plain.server.outcome.State == api.Pending {
			p.tick(t)
		}
		before := copiedParcels(p.plain.flight)
		want := p.real.Outcome()
		for range 20 {
			p.tick(t)
		}
		p.flies(t, before)
		p.goesOn(t)
		p.stands(t, want)
	})
}

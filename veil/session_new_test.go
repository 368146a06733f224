package veil_test

import (
	"math/rand"
	"slices"
	"testing"

	"veil/api"
	"veil/veil"
)

func checkNoSession(t *testing.T, c api.Config, draws []api.Draw, want api.Errno) {
	t.Helper()
	if x, e := veil.NewSession(c, draws); x != nil || e != want {
		t.Errorf("P15: NewSession(%v, %v) = %v, %d, want %d", c, draws, x, e, want)
	}
}

// TestSessionsOfConfigurations (P15): there is a session just of a
// configuration, whatever the draws are.
func TestSessionsOfConfigurations(t *testing.T) {
	r := rand.New(rand.NewSource(71))
	eachConfig(func(c api.Config, right bool) {
		t.Helper()
		if right {
			sessionFor(t, c, drawsOf(r, c)).stands(t, api.Outcome{})
			return
		}
		rightDraws := drawsOf(r, rightConfig)
		for _, draws := range [][]api.Draw{nil, {{}}, rightDraws, rightDraws[:3], make([]api.Draw, 13)} {
			checkNoSession(t, c, draws, api.ErrConfig)
		}
	})
}

// TestNumberOfDraws (P15): there are N draws, neither more nor fewer.
func TestNumberOfDraws(t *testing.T) {
	r := rand.New(rand.NewSource(72))
	for n := 1; n <= 12; n++ {
		c := api.Config{N: n, T: 1 + r.Intn(n), M: 2, D: 1}
		var draws []api.Draw
		for range 30 {
			draws = append(draws, drawOf(r, c))
		}
		checkNoSession(t, c, nil, api.ErrDraw)
		for many := range draws {
			if many == n {
				sessionFor(t, c, draws[:many])
			} else {
				checkNoSession(t, c, draws[:many], api.ErrDraw)
			}
		}
	}
}

// wrongDraws gives draws that are none of the right configuration, each for
// one reason.
func wrongDraws() []api.Draw {
	list := []api.Draw{{}}
	words, places := placesOf(&api.Draw{Input: make([]int, 4), SplitMask: make([]int, 2), SplitSeed: make([]int, 2)})
	for i := range len(words) + len(places) {
		for _, wrong := range []int{least, -1, api.Word, api.Prime, most} {
			d := rightDraw()
			words, places := placesOf(&d)
			if i >= len(words) && wrong == api.Word {
				continue
			}
			*append(words, places...)[i] = wrong
			list = append(list, d)
		}
	}
	for _, l := range [][]int{nil, {1}, {1, 2, 3}, {1, 2, 3, 4, 5}} {
		input, splitMask, splitSeed := rightDraw(), rightDraw(), rightDraw()
		input.Input, splitMask.SplitMask, splitSeed.SplitSeed = l, l, l
		list = append(list, input, splitMask, splitSeed)
	}
	return list
}

// TestWrongDrawAtEachPlace (P15): one that is none of the configuration is
// enough.
func TestWrongDrawAtEachPlace(t *testing.T) {
	for place := range rightConfig.N {
		for _, wrong := range wrongDraws() {
			draws := []api.Draw{rightDraw(), rightDraw(), rightDraw(), rightDraw(), rightDraw()}
			sessionFor(t, rightConfig, draws)
			draws[place] = wrong
			checkNoSession(t, rightConfig, draws, api.ErrDraw)
		}
	}
	r := rand.New(rand.NewSource(73))
	for n := 1; n <= 12; n++ {
		c := api.Config{N: n, T: n, M: 12, D: 50}
		for place := range n {
			draws := drawsOf(r, c)
			draws[place].Input[11] = api.Word
			checkNoSession(t, c, draws, api.ErrDraw)
			draws[place] = drawOf(r, api.Config{N: 12, T: n%12 + 1, M: 12, D: 1})
			checkNoSession(t, c, draws, api.ErrDraw)
		}
	}
}

// TestWhichErrorOfSessionsIsFirst (P1): the configuration, then the draws.
func TestWhichErrorOfSessionsIsFirst(t *testing.T) {
	for _, d := range append(wrongDraws(), rightDraw()) {
		for _, many := range []int{0, 1, 5, 6} {
			draws := slices.Repeat([]api.Draw{d}, many)
			for _, c := range []api.Config{{N: 5, T: 3, M: 4, D: 51}, {N: 5, T: 6, M: 4, D: 1}, {N: 13, T: 3, M: 4, D: 1}, {N: 5, T: 3, M: 13, D: 1}} {
				checkNoSession(t, c, draws, api.ErrConfig)
			}
			if many != 5 {
				checkNoSession(t, rightConfig, draws, api.ErrDraw)
			}
		}
	}
}

// TestHellosInFlight (P15): first that of client 1, with the keys of the first
// draw.
func TestHellosInFlight(t *testing.T) {
	for n := 1; n <= 12; n++ {
		c := api.Config{N: n, T: 1, M: 1, D: 1}
		var draws []api.Draw
		var want []api.Parcel
		channel, mask := 1, 1
		for u := 1; u <= n; u++ {
			draws = append(draws, api.Draw{Input: []int{u}, Channel: u, Mask: 2 * u})
			channel = plainTimes(channel, 37)
			mask = plainTimes(mask, 37*37)
			want = append(want, api.Parcel{From: u, To: 0, Bytes: plainBytes(frameOf(api.Hello, u, u, channel, mask, 0))})
		}
		sessionFor(t, c, draws).flies(t, want)
	}
}

// TestSessionsBegin (P15): nobody has received anything, no time has gone by,
// and nothing is told.
func TestSessionsBegin(t *testing.T) {
	r := rand.New(rand.NewSource(74))
	for n := 1; n <= 12; n++ {
		c := api.Config{N: n, T: 1 + r.Intn(n), M: 1 + r.Intn(12), D: 1 + r.Intn(4)}
		draws := drawsOf(r, c)
		p := sessionFor(t, c, draws)
		p.stands(t, api.Outcome{})
		p.goesOn(t)
		p.stands(t, added(c, draws, upTo(n)))
		none := sessionFor(t, c, draws)
		for tick := 1; tick <= c.D; tick++ {
			none.stands(t, api.Outcome{})
			none.tick(t)
		}
		none.stands(t, api.Outcome{State: api.Stopped})
	}
}

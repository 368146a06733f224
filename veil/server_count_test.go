package veil_test

import (
	"math/rand"
	"slices"
	"testing"

	"veil/api"
	"veil/veil"
)

func checkNoServer(t *testing.T, c api.Config) {
	t.Helper()
	if x, e := veil.NewServer(c); x != nil || e != api.ErrConfig {
		t.Errorf("P12: NewServer(%v) = %v, %d, want ErrConfig", c, x, e)
	}
}

// TestServersOfConfigurations (P12): there is a server just of a configuration.
func TestServersOfConfigurations(t *testing.T) {
	eachConfig(func(c api.Config, right bool) {
		t.Helper()
		if right {
			serverFor(t, c).stands(t, api.Outcome{})
		} else {
			checkNoServer(t, c)
		}
	})
}

// countCourse has seven clients, of whom 4 and 6 never say Hello, and 2, 3 and
// 5 fall out in the rounds 1, 2 and 3. Two at least must stay.
func countCourse() course {
	c := api.Config{N: 7, T: 2, M: 3, D: 2}
	return courseOf(rand.New(rand.NewSource(40)), c, [4][]int{{1, 2, 3, 5, 7}, {1, 3, 5, 7}, {1, 5, 7}, {1, 7}})
}

// leavesAll: none of the list is counted, neither at the beginning of the
// round, nor when others have been counted, nor at its last time; and then all
// goes on as if nothing had come.
func (k course) leavesAll(t *testing.T, round int, list [][]byte) {
	t.Helper()
	p := k.at(t, round)
	leave := func() {
		t.Helper()
		for _, b := range list {
			p.leaves(t, b)
		}
	}
	leave()
	for i, u := range k.stay[round] {
		if i == len(k.stay[round])-1 {
			leave()
		}
		p.counts(t, k.frames[round][u])
	}
	for range k.group.config.D - 1 {
		p.tick(t)
	}
	leave()
	p.tick(t)
	k.goesOn(t, p, round+1, 4)
	p.stands(t, k.wanted())
}

func bytesOf(list ...api.Frame) [][]byte {
	var l [][]byte
	for _, f := range list {
		l = append(l, plainBytes(f))
	}
	return l
}

// sentBy gives a frame as if another client had sent it.
func sentBy(f api.Frame, from int) api.Frame {
	g := api.Frame{Kind: f.Kind, From: from}
	for _, x := range f.Items {
		if f.Kind == api.Hello {
			x.Id = from
		}
		if f.Kind != api.Shares || x.Id != from {
			g.Items = append(g.Items, x)
		}
	}
	return g
}

// TestNoFramesAreLeft (P12): bytes that are no frame's, though some nearly
// are.
func TestNoFramesAreLeft(t *testing.T) {
	k := countCourse()
	for round := range 4 {
		list := [][]byte{nil, {}, {0}, {byte(2*round + 1)}, {0, 0, 0}, {9, 1, 0}, []byte("no frame"), make([]byte, 1000)}
		for _, u := range k.stay[round] {
			b := plainBytes(k.frames[round][u])
			list = append(list, b[:len(b)-1], b[:3], b[1:], append(slices.Clone(b), 0), append(slices.Clone(b), b...))
			for _, change := range []struct{ place, by int }{{0, 16}, {1, -u}, {1, 13 - u}, {1, 128}, {2, 1}, {2, -1}, {3, 12}, {len(b) - 1, 128}} {
				c := slices.Clone(b)
				c[change.place] += byte(change.by)
				if _, ok := plainRead(c); ok {
					t.Fatalf("%v are the bytes of a frame", c)
				}
				list = append(list, c)
			}
		}
		k.leavesAll(t, round, list)
	}
}

// TestOtherKindsAreLeft (P12): frames of all kinds but the one that the round
// wants: the right ones of other rounds, and what a server sends.
func TestOtherKindsAreLeft(t *testing.T) {
	k := countCourse()
	for round := range 4 {
		var list []api.Frame
		for _, f := range someFrames() {
			if f.Kind != 2*round+1 {
				list = append(list, f)
			}
		}
		for other := range 4 {
			for _, f := range k.frames[other] {
				if other != round {
					list = append(list, f)
				}
			}
		}
		for _, kind := range []int{api.Shares, api.Box, api.Keys, api.Ask} {
			if f := (api.Frame{Kind: kind, From: kind % 2}); kind != 2*round+1 {
				list = append(list, f, api.Frame{Kind: kind, From: kind % 2, Items: k.frames[0][1].Items})
			}
		}
		k.leavesAll(t, round, bytesOf(list...))
	}
}

// TestStrangersAreLeft (P12): frames From clients that are none of the N,
// though all else is right.
func TestStrangersAreLeft(t *testing.T) {
	k := countCourse()
	for round := range 4 {
		var list []api.Frame
		for _, u := range k.stay[round] {
			for from := 8; from <= 12; from++ {
				f := sentBy(k.frames[round][u], from)
				list = append(list, f)
				if round == 1 {
					list = append(list, with(f, api.Item{Id: u, A: 1, B: 2, C: 3}))
				}
			}
		}
		k.leavesAll(t, round, bytesOf(list...))
	}
}

// TestAllClientsMayBegin (P12): each of the N is counted in round 0, in any
// order, and none above N.
func TestAllClientsMayBegin(t *testing.T) {
	r := rand.New(rand.NewSource(41))
	for n := 1; n <= 12; n++ {
		p := serverFor(t, api.Config{N: n, T: n, M: 1, D: 1})
		for from := n + 1; from <= 12; from++ {
			p.leaves(t, plainBytes(frameOf(api.Hello, from, from, 1, 1, 0)))
		}
		for _, i := range r.Perm(n) {
			p.counts(t, frameOf(api.Hello, i+1, i+1, 1+i, 100-i, 0))
		}
		if l := p.ends(t); len(l) != n {
			t.Errorf("P13: %d parcels, want %d", len(l), n)
		}
	}
}

// TestWhoWasCountedIsLeft (P12): the same bytes again, and others of the same
// client, which do not take the place of the first.
func TestWhoWasCountedIsLeft(t *testing.T) {
	k := countCourse()
	for round := range 4 {
		p := k.at(t, round)
		for _, u := range k.stay[round] {
			f := k.frames[round][u]
			p.counts(t, f)
			g := api.Frame{Kind: f.Kind, From: f.From, Items: slices.Clone(f.Items)}
			for i := range g.Items {
				switch f.Kind {
				case api.Hello, api.Shares:
					g.Items[i].A, g.Items[i].B = f.Items[i].B, f.Items[i].A
				case api.Masked:
					g.Items[i].A ^= 1
				case api.Tell:
					g.Items[i].B ^= 1
				}
			}
			p.leaves(t, plainBytes(f))
			p.leaves(t, plainBytes(g))
		}
		p.ends(t)
		k.goesOn(t, p, round+1, 4)
		p.stands(t, k.wanted())
	}
}

// TestWhoFellOutIsLeft (P12): who was not counted in the round before, be it
// that it never was, or that it was in an earlier round.
func TestWhoFellOutIsLeft(t *testing.T) {
	k := countCourse()
	for round := 1; round < 4; round++ {
		var list []api.Frame
		for from := 1; from <= 7; from++ {
			for _, u := range k.stay[round] {
				f := sentBy(k.frames[round][u], from)
				if round == 1 {
					f = with(f, api.Item{Id: u, A: 1, B: 2, C: 3})
				}
				if !slices.Contains(k.stay[round-1], from) {
					list = append(list, f)
				}
			}
		}
		for _, u := range k.stay[round-1] {
			if !slices.Contains(k.stay[round], u) {
				list = append(list, sentBy(k.frames[round-1][u], u))
			}
		}
		k.leavesAll(t, round, bytesOf(list...))
		p := k.at(t, round)
		for _, u := range k.stay[round-1] {
			p.counts(t, k.frames[round][u])
		}
		p.ends(t)
	}
}

// otherIds gives a frame with one Id more, one less, or one in the place of
// another, for all Ids; the new items are like x.
func otherIds(f api.Frame, x api.Item) []api.Frame {
	var list []api.Frame
	for id := 1; id <= 12; id++ {
		x.Id = id
		if _, ok := itemWith(f, id); ok || f.Kind == api.Shares && id == f.From {
			continue
		}
		list = append(list, with(f, x))
		for _, y := range f.Items {
			list = append(list, with(without(f, y.Id), x))
		}
	}
	for _, y := range f.Items {
		list = append(list, without(f, y.Id))
	}
	return list
}

// TestIdsOfShares (P12): those of U0, but From itself.
func TestIdsOfShares(t *testing.T) {
	k := countCourse()
	list := []api.Frame{}
	for _, u := range k.stay[0] {
		f := k.frames[1][u]
		list = append(list, otherIds(f, api.Item{A: 1, B: 2, C: 3})...)
		list = append(list, api.Frame{Kind: api.Shares, From: u}, api.Frame{Kind: api.Shares, From: u, Items: f.Items[:1]})
	}
	k.leavesAll(t, 1, bytesOf(list...))
	alone := courseOf(rand.New(rand.NewSource(42)), api.Config{N: 3, T: 1, M: 1, D: 1}, [4][]int{{2}, {2}, {2}, {2}})
	alone.leavesAll(t, 1, bytesOf(frameOf(api.Shares, 2, 1, 0, 0, 0), frameOf(api.Shares, 2, 3, 0, 0, 0), frameOf(api.Shares, 2, 1, 0, 0, 0, 3, 0, 0, 0)))
}

// TestItemsOfMasked (P12): there are M, for each M.
func TestItemsOfMasked(t *testing.T) {
	for m := 1; m <= 12; m++ {
		all := []int{1, 2}
		k := courseOf(rand.New(rand.NewSource(43)), api.Config{N: 2, T: 2, M: m, D: 1}, [4][]int{all, all, all, all})
		var list []api.Frame
		for n := 1; n <= 12; n++ {
			for _, u := range all {
				f := api.Frame{Kind: api.Masked, From: u}
				for i := 1; i <= n; i++ {
					f.Items = append(f.Items, api.Item{Id: i, A: 7})
				}
				if n != m {
					list = append(list, f)
				}
			}
		}
		k.leavesAll(t, 2, bytesOf(list...))
	}
}

// TestIdsOfTell (P12): those of U1; neither those of U0 nor those of U2.
func TestIdsOfTell(t *testing.T) {
	k := countCourse()
	var list []api.Frame
	for _, u := range k.stay[2] {
		f := k.frames[3][u]
		list = append(list, otherIds(f, api.Item{A: 1, B: 5})...)
		list = append(list, otherIds(f, api.Item{A: 2, B: 5})...)
		list = append(list, without(f, 3), frameOf(api.Tell, u, u, 1, 5, 0))
	}
	k.leavesAll(t, 3, bytesOf(list...))
}

// TestKindsOfSharesTold (P12): A is 1 just for those of U2.
func TestKindsOfSharesTold(t *testing.T) {
	k := countCourse()
	var list []api.Frame
	for _, u := range k.stay[2] {
		f := k.frames[3][u]
		for flips := 1; flips < 1<<len(f.Items); flips++ {
			g := api.Frame{Kind: f.Kind, From: f.From, Items: slices.Clone(f.Items)}
			for i := range g.Items {
				if flips>>i&1 == 1 {
					g.Items[i].A = 3 - g.Items[i].A
				}
			}
			list = append(list, g)
		}
	}
	k.leavesAll(t, 3, bytesOf(list...))
}

// TestNumbersDoNotMatter (P12): all that can stand in a frame is counted, be
// it what a client would send or not.
func TestNumbersDoNotMatter(t *testing.T) {
	k := countCourse()
	for round := range 4 {
		r, _ := rowOf(2*round + 1)
		for _, high := range []bool{false, true} {
			p := k.at(t, round)
			for _, u := range k.stay[round] {
				f := k.frames[round][u]
				g := api.Frame{Kind: f.Kind, From: f.From}
				for _, x := range f.Items {
					y := api.Item{Id: x.Id, A: r.spans[0].low, B: r.spans[1].low, C: r.spans[2].low}
					if high {
						y = api.Item{Id: x.Id, A: r.spans[0].high, B: r.spans[1].high, C: r.spans[2].high}
					}
					if f.Kind == api.Tell {
						y.A = x.A
					}
					g.Items = append(g.Items, y)
				}
				p.counts(t, g)
			}
			p.ends(t)
			k.goesOn(t, p, round+1, 4)
		}
	}
}

// TestNothingIsCountedAtTheEnd (P12): neither when it is done nor when it has
// stopped in any round.
func TestNothingIsCountedAtTheEnd(t *testing.T) {
	k := countCourse()
	for round := range 5 {
		p := k.at(t, round)
		if round < 4 {
			p.ends(t)
			p.stands(t, api.Outcome{State: api.Stopped, Round: round})
		}
		for i := range k.frames {
			for _, f := range k.frames[i] {
				p.leaves(t, plainBytes(f))
			}
		}
		for _, f := range someFrames() {
			p.leaves(t, plainBytes(f))
		}
	}
}

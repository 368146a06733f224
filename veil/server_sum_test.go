package veil_test

import (
	"math/rand"
	"slices"
	"testing"

	"veil/api"
	"veil/veil"
)

// twoClients gives a server of the document's two clients, that begins with
// round 2.
func twoClients(t *testing.T) serverPair {
	t.Helper()
	p := serverFor(t, api.Config{N: 2, T: 1, M: 1, D: 1})
	p.counts(t, frameOf(api.Hello, 1, 1, 1, 1, 0))
	p.counts(t, frameOf(api.Hello, 2, 2, 1, 1, 0))
	p.ends(t)
	p.counts(t, frameOf(api.Shares, 1, 2, 5, 6, 7))
	p.counts(t, frameOf(api.Shares, 2, 1, 8, 9, 10))
	p.ends(t)
	return p
}

// TestSumsOfTheDocument (P14): both stay, or one of them.
func TestSumsOfTheDocument(t *testing.T) {
	first, second := frameOf(api.Masked, 1, 1, 15728649, 0, 0), frameOf(api.Masked, 2, 1, 4285530119, 0, 0)
	both := twoClients(t)
	both.counts(t, first)
	both.counts(t, second)
	both.ends(t)
	both.counts(t, frameOf(api.Tell, 2, 1, 1, 0, 0, 2, 1, 0, 0))
	both.ends(t)
	both.stands(t, api.Outcome{State: api.Done, Set: []int{1, 2}, Sum: []int{14}})
	one := twoClients(t)
	one.counts(t, first)
	one.ends(t)
	one.counts(t, frameOf(api.Tell, 1, 1, 1, 0, 0, 2, 2, 0, 0))
	one.ends(t)
	one.stands(t, api.Outcome{State: api.Done, Set: []int{1}, Sum: []int{5}})
	other := twoClients(t)
	other.counts(t, second)
	other.ends(t)
	other.counts(t, frameOf(api.Tell, 2, 1, 2, 0, 0, 2, 1, 0, 0))
	other.ends(t)
	other.stands(t, api.Outcome{State: api.Done, Set: []int{2}, Sum: []int{9}})
}

// TestOneAlone (P14): the document's single client.
func TestOneAlone(t *testing.T) {
	p := serverFor(t, api.Config{N: 1, T: 1, M: 1, D: 1})
	for _, f := range []api.Frame{
		frameOf(api.Hello, 1, 1, 1, 1, 0), frameOf(api.Shares, 1),
		frameOf(api.Masked, 1, 1, 3145736, 0, 0), frameOf(api.Tell, 1, 1, 1, 0, 0),
	} {
		p.stands(t, api.Outcome{})
		p.counts(t, f)
		p.ends(t)
	}
	p.stands(t, api.Outcome{State: api.Done, Set: []int{1}, Sum: []int{7}})
}

// fallOuts gives U0 to U3 of n clients, of whom each falls out in the round
// that its digit says, or, with 4, in none.
func fallOuts(n, digits int) [4][]int {
	var stay [4][]int
	for u := 1; u <= n; u++ {
		for round := 0; round < digits%5; round++ {
			stay[round] = append(stay[round], u)
		}
		digits /= 5
	}
	return stay
}

// TestAllWaysToFallOut (P13, P14): four clients, of whom each falls out in any
// round or in none: the sum is that of the lists of U2, or it stops in the
// first round that lacks clients.
func TestAllWaysToFallOut(t *testing.T) {
	r := rand.New(rand.NewSource(46))
	var ends [5]int
	for digits := range 625 {
		stay := fallOuts(4, digits)
		threshold := 1 + digits%3
		round := 0
		for round < 4 && len(stay[round]) >= threshold {
			round++
		}
		k := courseOf(r, api.Config{N: 4, T: threshold, M: 2, D: 1}, stay)
		if round == 4 {
			k.at(t, 4).stands(t, k.wanted())
		} else {
			p := k.at(t, round)
			k.sends(t, p, round)
			p.ends(t)
			p.stands(t, api.Outcome{State: api.Stopped, Round: round})
		}
		ends[round]++
	}
	if slices.Min(ends[:]) < 10 {
		t.Errorf("the servers ended in the rounds 0 to 3, or done: %v", ends)
	}
}

// TestSumsOfMany (P14): for each number of clients some fall out in each round;
// lists of all lengths.
func TestSumsOfMany(t *testing.T) {
	r := rand.New(rand.NewSource(47))
	for n := 1; n <= 12; n++ {
		for m := 1; m <= 12; m++ {
			c := api.Config{N: n, T: 1 + r.Intn(n), M: m, D: 1 + r.Intn(3)}
			must := 1 + r.Intn(n)
			var stay [4][]int
			before := upTo(n)
			for i := range stay {
				stay[i] = someOf(r, before, c.T, must)
				before = stay[i]
			}
			k := courseOf(r, c, stay)
			k.at(t, 4).stands(t, k.wanted())
		}
	}
}

// TestAnyNumbersAddedUp (P14): all that can be counted, be it what a client
// would send or not, is reckoned with as the document says; edges often.
func TestAnyNumbersAddedUp(t *testing.T) {
	r := rand.New(rand.NewSource(48))
	for range 400 {
		n := 1 + r.Intn(7)
		c := api.Config{N: n, T: 1, M: 1 + r.Intn(4), D: 1}
		must := 1 + r.Intn(n)
		p := serverFor(t, c)
		before := upTo(n)
		for range 4 {
			before = someOf(r, before, 1, must)
			for _, u := range before {
				p.counts(t, anyFrame(r, p.plain, u))
			}
			p.ends(t)
		}
		if p.plain.outcome.State != api.Done {
			t.Errorf("P14: the outcome is %v", p.plain.outcome)
		}
	}
}

// anyFrame draws a frame of u that is counted in this round.
func anyFrame(r *rand.Rand, p *plainServer, u int) api.Frame {
	kind := 2*p.round + 1
	row, _ := rowOf(kind)
	f := api.Frame{Kind: kind, From: u}
	for id := 1; id <= 12; id++ {
		x := api.Item{Id: id, A: within(r, row.spans[0]), B: within(r, row.spans[1]), C: within(r, row.spans[2])}
		has := false
		switch p.round {
		case 0:
			has = id == u
		case 1:
			has = id != u && p.has(0, id)
		case 2:
			has = id <= p.config.M
		case 3:
			has = p.has(1, id)
			x.A = 2
			if p.has(2, id) {
				x.A = 1
			}
		}
		if has {
			f.Items = append(f.Items, x)
		}
	}
	return f
}

// TestJoinedOfAll (P14): the secrets are joined of what all of U3 have told,
// not of T of them: the shares of one client more make another secret.
func TestJoinedOfAll(t *testing.T) {
	for _, tellers := range []int{1, 2} {
		p := twoClients(t)
		p.counts(t, frameOf(api.Masked, 1, 1, 0, 0, 0))
		p.counts(t, frameOf(api.Masked, 2, 1, 0, 0, 0))
		p.ends(t)
		p.counts(t, frameOf(api.Tell, 2, 1, 1, 2, 0, 2, 1, 4, 0))
		seeds := [2]int{2, 4}
		if tellers == 2 {
			p.counts(t, frameOf(api.Tell, 1, 1, 1, 10, 0, 2, 1, 20, 0))
			// Through (1, 10) and (2, 2) goes 18 - 8 x, and the other line is
			// twice that.
			seeds = [2]int{18, 36}
		}
		p.ends(t)
		sum := -plainMask(seeds[0], 1) - plainMask(seeds[1], 1)
		p.stands(t, api.Outcome{State: api.Done, Set: []int{1, 2}, Sum: []int{sum & (api.Word - 1)}})
	}
}

// TestSumsBeyondAWord (P14): the numbers of twelve lists go beyond a word, and
// the masks do too.
func TestSumsBeyondAWord(t *testing.T) {
	all := upTo(12)
	k := courseOf(rand.New(rand.NewSource(49)), api.Config{N: 12, T: 1, M: 12, D: 1}, [4][]int{all, all, all, all})
	for _, number := range []int{0, 1, api.Word - 1} {
		p := k.at(t, 2)
		for _, u := range all {
			f := api.Frame{Kind: api.Masked, From: u}
			for i := 1; i <= 12; i++ {
				f.Items = append(f.Items, api.Item{Id: i, A: number})
			}
			p.counts(t, f)
		}
		p.ends(t)
		k.sends(t, p, 3)
		p.ends(t)
	}
}

// TestClientsAndServer (P9 to P14): clients and a server of the program itself
// answer each other.
func TestClientsAndServer(t *testing.T) {
	r := rand.New(rand.NewSource(50))
	for n := 1; n <= 12; n++ {
		c := api.Config{N: n, T: (n + 1) / 2, M: 3, D: 2}
		server := serverFor(t, c)
		var clients []*veil.Client
		var draws []api.Draw
		for id := 1; id <= n; id++ {
			d := drawOf(r, c)
			x, _ := veil.NewClient(c, id, d)
			clients = append(clients, x)
			draws = append(draws, d)
			server.take(t, x.Hello())
		}
		want := api.Outcome{State: api.Done, Sum: make([]int, 3)}
		for round := range 4 {
			for _, l := range server.ends(t) {
				b := clients[l.To-1].Take(l.Bytes)
				// One half falls out behind its Shares.
				if round != 1 || l.To%2 == 1 {
					server.take(t, b)
				}
			}
		}
		for id := 1; id <= n; id += 2 {
			want.Set = append(want.Set, id)
			for i, number := range draws[id-1].Input {
				want.Sum[i] = (want.Sum[i] + number) % api.Word
			}
		}
		server.stands(t, want)
	}
}

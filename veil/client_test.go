package veil_test

import (
	"bytes"
	"math/rand"
	"testing"

	"veil/api"
	"veil/veil"
)

// TestClientOfTheDocument: the one alone.
func TestClientOfTheDocument(t *testing.T) {
	x, e := veil.NewClient(api.Config{N: 1, T: 1, M: 1, D: 1}, 1, api.Draw{Input: []int{7}})
	if x == nil || e != api.OK || x.Phase() != 1 {
		t.Fatalf("P8: NewClient = %v, %d", x, e)
	}
	hello := []byte{1, 1, 1, 1, 1, 0, 0, 0, 0, 0, 0, 0, 1, 0, 0, 0, 0, 0, 0, 0}
	keys := append([]byte{2, 0}, hello[2:]...)
	for i, step := range []struct{ in, out []byte }{
		{keys, []byte{3, 1, 0}},
		{[]byte{4, 0, 0}, []byte{5, 1, 1, 1, 8, 0, 48, 0, 0, 0, 0, 0}},
		{[]byte{6, 0, 1, 1}, []byte{7, 1, 1, 1, 1, 0, 0, 0, 0, 0, 0, 0, 0, 0, 0, 0, 0, 0, 0, 0}},
	} {
		if h := x.Hello(); !bytes.Equal(h, hello) {
			t.Errorf("P8: Hello() = %v", h)
		}
		if l := x.Released(); l != nil {
			t.Errorf("P8: Released() = %v at phase %d", l, i+1)
		}
		if b := x.Take(step.in); !bytes.Equal(b, step.out) || x.Phase() != i+2 {
			t.Errorf("P9 to P11: Take(%v) = %v, phase %d, want %v", step.in, b, x.Phase(), step.out)
		}
	}
	if l := x.Released(); len(l) != 1 || l[0] != (api.Item{Id: 1, A: 1}) {
		t.Errorf("P11: Released() = %v", l)
	}
}

// TestMaskedOfTheDocument: those of two clients.
func TestMaskedOfTheDocument(t *testing.T) {
	c := api.Config{N: 2, T: 1, M: 1, D: 1}
	first, _ := veil.NewClient(c, 1, api.Draw{Input: []int{5}})
	second, _ := veil.NewClient(c, 2, api.Draw{Input: []int{9}})
	keys := plainBytes(frameOf(api.Keys, 0, 1, 1, 1, 0, 2, 1, 1, 0))
	ofFirst := first.Take(keys)
	ofSecond := second.Take(keys)
	if len(ofFirst) != 28 || len(ofSecond) != 28 {
		t.Fatalf("P9: the shares are %v and %v", ofFirst, ofSecond)
	}
	a := first.Take(append([]byte{4, 0, 1, 2}, ofSecond[4:]...))
	b := second.Take(append([]byte{4, 0, 1, 1}, ofFirst[4:]...))
	if !bytes.Equal(a, plainBytes(frameOf(api.Masked, 1, 1, 15728649, 0, 0))) {
		t.Errorf("P10: the masked list of 1 is %v", a)
	}
	if !bytes.Equal(b, plainBytes(frameOf(api.Masked, 2, 1, 4285530119, 0, 0))) {
		t.Errorf("P10: the masked list of 2 is %v", b)
	}
}

// someOf draws at least n of a list, among them the one that must be.
func someOf(r *rand.Rand, list []int, n, must int) []int {
	for {
		var l []int
		hasMust := false
		for _, v := range list {
			if v == must || r.Intn(3) > 0 {
				l = append(l, v)
				hasMust = hasMust || v == must
			}
		}
		if len(l) >= n && hasMust {
			return l
		}
	}
}

func upTo(n int) []int {
	var l []int
	for v := 1; v <= n; v++ {
		l = append(l, v)
	}
	return l
}

// goesThrough brings a client through all phases.
func (p pair) goesThrough(t *testing.T, g group, first, second, third []int) {
	t.Helper()
	p.goesTo(t, 2, g.keys(first...))
	p.goesTo(t, 3, g.box(p.plain.id, second...))
	p.goesTo(t, 4, askOf(third...))
}

// TestEachClient (P9, P10, P11): each client of each number of clients, with
// all others, with the fewest and with some: each number of each answer.
func TestEachClient(t *testing.T) {
	r := rand.New(rand.NewSource(10))
	for n := 1; n <= 12; n++ {
		c := api.Config{N: n, T: 1 + r.Intn(n), M: 1 + r.Intn(12), D: 1 + r.Intn(50)}
		g := groupOf(r, c)
		for id := 1; id <= n; id++ {
			all := upTo(n)
			g.pairOf(t, id).goesThrough(t, g, all, all, all)
			first := someOf(r, all, c.T, id)
			second := someOf(r, first, c.T, id)
			third := someOf(r, second, c.T, id)
			g.pairOf(t, id).goesThrough(t, g, first, second, third)
		}
	}
}

// fewest gives n of the clients up to top, id among them.
func fewest(n, top, id int) []int {
	var l []int
	for v := 1; v <= top; v++ {
		missing := n - len(l)
		if v == id || missing > 1 || missing == 1 && v > id {
			l = append(l, v)
		}
	}
	return l
}

// TestFewestAgree (P9, P10, P11): just T clients are enough, for each T; and
// each phase may lose some.
func TestFewestAgree(t *testing.T) {
	r := rand.New(rand.NewSource(11))
	for top := 1; top <= 12; top++ {
		c := api.Config{N: 12, T: top, M: 2, D: 1}
		g := groupOf(r, c)
		for _, id := range []int{1, 6, 12} {
			least := fewest(top, 12, id)
			if len(least) != top {
				t.Fatalf("fewest(%d, 12, %d) = %v", top, id, least)
			}
			g.pairOf(t, id).goesThrough(t, g, least, least, least)
			g.pairOf(t, id).goesThrough(t, g, upTo(12), least, least)
			g.pairOf(t, id).goesThrough(t, g, upTo(12), upTo(12), least)
		}
	}
}

// TestNumbersOfLists (P10): lists of every length, and numbers whose sums go
// beyond a word.
func TestNumbersOfLists(t *testing.T) {
	r := rand.New(rand.NewSource(12))
	for m := 1; m <= 12; m++ {
		c := api.Config{N: 5, T: 2, M: m, D: 1}
		g := groupOf(r, c)
		for _, number := range []int{0, 1, api.Word - 1} {
			for id := 1; id <= 5; id++ {
				d := g.clients[id-1].draw
				d.Input = nil
				for range m {
					d.Input = append(d.Input, number)
				}
				all := upTo(5)
				pairFor(t, c, id, d).goesThrough(t, g, all, all, all)
			}
		}
	}
}

// TestSecretsAtTheEdges (P9, P10, P11).
func TestSecretsAtTheEdges(t *testing.T) {
	r := rand.New(rand.NewSource(13))
	c := api.Config{N: 3, T: 2, M: 3, D: 1}
	g := groupOf(r, c)
	for i, a := range edges {
		for place := range 5 {
			d := drawOf(r, c)
			switch place {
			case 0:
				d.Channel = a
			case 1:
				d.Mask = a
			case 2:
				d.Seed = a
			case 3:
				d.SplitMask[0] = a
			case 4:
				d.SplitSeed[0] = a
			}
			id := 1 + i%3
			g.clients[id-1] = newPlain(c, id, d)
			all := upTo(3)
			g.pairOf(t, id).goesThrough(t, g, all, all, askIds(id))
		}
	}
}

// askIds are two of three clients.
func askIds(id int) []int {
	if id == 1 {
		return []int{1, 3}
	}
	return []int{id - 1, id}
}

// TestOtherPublicKeys (P9, P10): the public keys of others are any from 1 to
// Prime - 1, as the frame says them.
func TestOtherPublicKeys(t *testing.T) {
	r := rand.New(rand.NewSource(14))
	c := api.Config{N: 3, T: 1, M: 2, D: 1}
	g := groupOf(r, c)
	for _, a := range elements(20)[1:] {
		p := g.pairOf(t, 2)
		b := plainMinus(0, a)
		f := frameOf(api.Keys, 0, 1, a, b, 0, 2, p.plain.public().A, p.plain.public().B, 0, 3, b, a, 0)
		p.goesTo(t, 2, f)
		box := api.Frame{Kind: api.Box}
		for _, v := range []int{1, 3} {
			l := someElements(r, 2)
			s := plainSeal(way{p.plain.channelKey(v), v, 2}, l[0], l[1])
			box.Items = append(box.Items, api.Item{Id: v, A: s.x, B: s.y, C: s.z})
		}
		p.goesTo(t, 3, box)
		p.goesTo(t, 4, askOf(2))
	}
}

// TestMasksGoAway (P10): in the sum of the masked lists of all, nothing is
// left but the lists and the masks of the seeds.
func TestMasksGoAway(t *testing.T) {
	r := rand.New(rand.NewSource(15))
	c := api.Config{N: 6, T: 3, M: 4, D: 1}
	g := groupOf(r, c)
	var sum, want [4]int
	for _, p := range g.clients {
		x, _ := veil.NewClient(c, p.id, p.draw)
		x.Take(plainBytes(g.keys(1, 2, 4, 5, 6, 3)))
		if x.Phase() != 1 {
			t.Fatalf("P9: Ids that do not rise bring a client to phase %d", x.Phase())
		}
		x.Take(plainBytes(g.keys(upTo(6)...)))
		f, e := veil.Decode(x.Take(plainBytes(g.box(p.id, upTo(6)...))))
		if e != api.OK || len(f.Items) != 4 {
			t.Fatalf("P10: the masked list is %v, %d", f, e)
		}
		for i := range sum {
			sum[i] += f.Items[i].A
			want[i] += p.draw.Input[i] + plainMask(p.draw.Seed, i+1)
		}
	}
	for i := range sum {
		if sum[i]%api.Word != want[i]%api.Word {
			t.Errorf("P10: the number %d of all lists is %d, want %d", i+1, sum[i]%api.Word, want[i]%api.Word)
		}
	}
}

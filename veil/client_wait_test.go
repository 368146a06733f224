package veil_test

import (
	"math/rand"
	"testing"

	"veil/api"
)

// round is a group, one of its clients, and the frames with which it goes
// through all phases.
type round struct {
	group          group
	id             int
	keys, box, ask api.Frame
}

// roundOf has the clients 1, 2, 3 and 5 of six in FIRST, 1, 3 and 5 in SECOND,
// and two of these in THIRD; at least two must stay.
func roundOf(id int) round {
	g := groupOf(rand.New(rand.NewSource(20)), api.Config{N: 6, T: 2, M: 3, D: 4})
	ask := askOf(1, 3)
	if id == 5 {
		ask = askOf(3, 5)
	}
	return round{g, id, g.keys(1, 2, 3, 5), g.box(id, 1, 3, 5), ask}
}

func (r round) frames() []api.Frame { return []api.Frame{r.keys, r.box, r.ask} }

// at gives the client of the round at a phase from 1 to 4.
func (r round) at(t *testing.T, phase int) pair {
	t.Helper()
	p := r.group.pairOf(t, r.id)
	for i := 1; i < phase; i++ {
		p.goesTo(t, i+1, r.frames()[i-1])
	}
	return p
}

// noFrames are bytes that are no frame's, though some nearly are.
func (r round) noFrames() [][]byte {
	list := [][]byte{nil, {}, {0}, {2}, {4, 0}, {6, 0, 0}, {0, 0, 0}, {2, 0, 0}, {8, 0, 1, 1}, {6, 0, 2, 3, 1}, []byte("no frame"), make([]byte, 1000)}
	for _, f := range r.frames() {
		b := plainBytes(f)
		list = append(list, b[:len(b)-1], b[1:], append(plainBytes(f), 0), append(plainBytes(f), b...))
		for _, from := range []byte{1, byte(r.id), 13} {
			c := plainBytes(f)
			c[1] = from
			list = append(list, c)
		}
		for _, count := range []byte{b[2] - 1, b[2] + 1} {
			c := plainBytes(f)
			c[2] = count
			list = append(list, c)
		}
		c := plainBytes(f)
		c[len(c)-1] = 255
		list = append(list, c)
	}
	return list
}

// otherFrames are frames of all kinds but one, and those of the round among
// them.
func (r round) otherFrames(but int) []api.Frame {
	var list []api.Frame
	for _, f := range append(someFrames(), r.frames()...) {
		if f.Kind != but {
			list = append(list, f)
		}
	}
	own := r.group.clients[r.id-1].public()
	return append(list, api.Frame{Kind: api.Hello, From: r.id, Items: []api.Item{own}}, api.Frame{Kind: api.Shares, From: r.id})
}

// staysAtAll: nothing of what is not waited for is taken.
func (r round) staysAtAll(t *testing.T, p pair, waited int) {
	t.Helper()
	for _, b := range r.noFrames() {
		p.stays(t, b)
	}
	for _, f := range r.otherFrames(waited) {
		p.stays(t, plainBytes(f))
	}
}

// TestWhatIsNotWaitedFor (P9): at each phase nothing is changed by it: what
// comes after it is answered as ever.
func TestWhatIsNotWaitedFor(t *testing.T) {
	for _, id := range []int{1, 3} {
		r := roundOf(id)
		p := r.at(t, 1)
		r.staysAtAll(t, p, api.Keys)
		p.goesTo(t, 2, r.keys)
		r.staysAtAll(t, p, api.Box)
		p.goesTo(t, 3, r.box)
		r.staysAtAll(t, p, api.Ask)
		p.goesTo(t, 4, r.ask)
		r.staysAtAll(t, p, 0)
	}
}

// TestWhatCameAlready (P9): the same bytes, and other ones of the same kind.
func TestWhatCameAlready(t *testing.T) {
	r := roundOf(3)
	g := r.group
	p := r.at(t, 1)
	p.goesTo(t, 2, r.keys)
	p.stays(t, plainBytes(r.keys))
	p.stays(t, plainBytes(g.keys(1, 3)))
	p.stays(t, plainBytes(g.keys(1, 2)))
	p.goesTo(t, 3, r.box)
	p.stays(t, plainBytes(r.keys))
	p.stays(t, plainBytes(r.box))
	p.stays(t, plainBytes(g.box(3, 1, 2)))
	p.stays(t, []byte{4, 0, 0})
	p.goesTo(t, 4, r.ask)
	for _, f := range r.frames() {
		p.stays(t, plainBytes(f))
	}
	p.stays(t, plainBytes(askOf(3, 5)))
	p.stays(t, plainBytes(askOf(1, 3, 5)))
	p.stays(t, plainBytes(askOf(6)))
}

// TestWhatComesTooEarly (P9): it has to come again.
func TestWhatComesTooEarly(t *testing.T) {
	r := roundOf(1)
	p := r.at(t, 1)
	p.stays(t, plainBytes(r.ask))
	p.stays(t, plainBytes(r.box))
	p.goesTo(t, 2, r.keys)
	p.stays(t, plainBytes(r.ask))
	p.goesTo(t, 3, r.box)
	p.goesTo(t, 4, r.ask)
}

// halts takes what does not agree: from then on the client takes nothing.
func (r round) halts(t *testing.T, p pair, f api.Frame) {
	t.Helper()
	if !plainFrame(f) {
		t.Fatalf("%v is no frame", f)
	}
	p.take(t, plainBytes(f))
	if p.real.Phase() != 0 {
		t.Errorf("P9 to P11: phase %d after %v, want 0", p.real.Phase(), f)
	}
	for range 2 {
		for _, g := range r.frames() {
			p.stays(t, plainBytes(g))
		}
		p.stays(t, plainBytes(f))
		p.stays(t, []byte{4, 0, 0})
		p.stays(t, nil)
	}
}

// without gives a frame without the item with this Id.
func without(f api.Frame, id int) api.Frame {
	g := api.Frame{Kind: f.Kind, From: f.From}
	for _, x := range f.Items {
		if x.Id != id {
			g.Items = append(g.Items, x)
		}
	}
	return g
}

// with gives a frame with an item in the place of the one with its Id.
func with(f api.Frame, x api.Item) api.Frame {
	g := api.Frame{Kind: f.Kind, From: f.From}
	laid := false
	for _, y := range f.Items {
		if y.Id >= x.Id && !laid {
			g.Items = append(g.Items, x)
			laid = true
		}
		if y.Id != x.Id {
			g.Items = append(g.Items, y)
		}
	}
	if !laid {
		g.Items = append(g.Items, x)
	}
	return g
}

// TestKeysThatDoNotAgree (P9).
func TestKeysThatDoNotAgree(t *testing.T) {
	for _, id := range []int{1, 3, 5} {
		r := roundOf(id)
		own := r.group.clients[id-1].public()
		other := r.group.clients[1].public()
		for _, f := range []api.Frame{
			r.group.keys(id),
			without(r.keys, id),
			with(r.keys, api.Item{Id: id, A: plainPower(own.A, 2), B: own.B}),
			with(r.keys, api.Item{Id: id, A: own.A, B: plainPower(own.B, 2)}),
			with(r.keys, api.Item{Id: id, A: own.B, B: own.A}),
			with(r.keys, api.Item{Id: id, A: other.A, B: other.B}),
			with(without(r.keys, id), api.Item{Id: 6, A: own.A, B: own.B}),
			with(r.keys, api.Item{Id: 7, A: 1, B: 1}),
			with(r.keys, api.Item{Id: 12, A: other.A, B: other.B}),
			with(r.group.keys(upTo(6)...), api.Item{Id: 7, A: 5, B: 5}),
			with(r.group.keys(id), api.Item{Id: 8, A: 5, B: 5}),
		} {
			r.halts(t, r.at(t, 1), f)
		}
		r.at(t, 1).goesTo(t, 2, r.group.keys(upTo(6)...))
		r.at(t, 1).goesTo(t, 2, with(r.group.keys(id), api.Item{Id: 6, A: 5, B: 5}))
	}
}

// TestFewKeys (P9): one less than must stay, for each T.
func TestFewKeys(t *testing.T) {
	for n := 2; n <= 12; n++ {
		g := groupOf(rand.New(rand.NewSource(21)), api.Config{N: 12, T: n, M: 1, D: 1})
		for _, id := range []int{1, 7, 12} {
			r := round{g, id, g.keys(upTo(12)...), g.box(id, upTo(12)...), askOf(upTo(12)...)}
			few := fewest(n-1, 12, id)
			r.halts(t, r.at(t, 1), g.keys(few...))
			r.halts(t, r.at(t, 2), g.box(id, few...))
			r.halts(t, r.at(t, 3), askOf(few...))
		}
	}
}

// sealedItem seals two numbers as v would for to, with any key.
func sealedItem(key, v, to int) api.Item {
	s := plainSeal(way{key, v, to}, 12, 34)
	return api.Item{Id: v, A: s.x, B: s.y, C: s.z}
}

// TestBoxesThatDoNotAgree (P10).
func TestBoxesThatDoNotAgree(t *testing.T) {
	for _, id := range []int{1, 3, 5} {
		r := roundOf(id)
		p := r.at(t, 2)
		own := plainPower(p.plain.public().A, p.plain.draw.Channel)
		list := []api.Frame{
			{Kind: api.Box},
			with(r.box, sealedItem(own, id, id)),
			with(r.box, sealedItem(0, id, id)),
			with(r.box, sealedItem(1, id, id)),
			frameOf(api.Box, 0, id, 0, 0, 0),
			with(api.Frame{Kind: api.Box}, sealedItem(own, id, id)),
			with(r.box, r.group.sealed(4, id)),
			with(r.box, r.group.sealed(6, id)),
			with(api.Frame{Kind: api.Box}, r.group.sealed(4, id)),
		}
		for _, v := range []int{4, 6, 7, 12} {
			for _, key := range []int{0, 1, own, p.plain.channelKey(2)} {
				list = append(list, with(r.box, sealedItem(key, v, id)))
			}
		}
		for _, f := range list {
			r.halts(t, r.at(t, 2), f)
		}
		r.at(t, 2).goesTo(t, 3, with(r.box, r.group.sealed(2, id)))
		r.at(t, 2).goesTo(t, 3, r.group.box(id, 2))
	}
}

// TestSealsThatDoNotAgree (P10): a single item that is not sealed as it should
// be, at each place.
func TestSealsThatDoNotAgree(t *testing.T) {
	for _, id := range []int{1, 3, 5} {
		r := roundOf(id)
		g := r.group
		p := r.at(t, 2)
		for _, v := range []int{1, 2, 3, 5} {
			if v == id {
				continue
			}
			whole := g.box(id, 1, 2, 3, 5)
			r.at(t, 2).goesTo(t, 3, whole)
			x := g.sealed(v, id)
			for _, by := range []int{1, 1 << 31, last} {
				r.halts(t, r.at(t, 2), with(whole, api.Item{Id: v, A: plainPlus(x.A, by), B: x.B, C: x.C}))
				r.halts(t, r.at(t, 2), with(whole, api.Item{Id: v, A: x.A, B: plainPlus(x.B, by), C: x.C}))
				r.halts(t, r.at(t, 2), with(whole, api.Item{Id: v, A: x.A, B: x.B, C: plainPlus(x.C, by)}))
			}
			r.halts(t, r.at(t, 2), with(whole, api.Item{Id: v, A: x.B, B: x.A, C: x.C}))
			r.halts(t, r.at(t, 2), with(whole, api.Item{Id: v}))
			key := p.plain.channelKey(v)
			for _, w := range []way{{key, id, v}, {key, v, 6}, {key, 6, id}, {p.plain.maskKey(v), v, id}, {plainPlus(key, 1), v, id}, {p.plain.channelKey(4), v, id}} {
				s := plainSeal(w, 12, 34)
				r.halts(t, r.at(t, 2), with(whole, api.Item{Id: v, A: s.x, B: s.y, C: s.z}))
			}
			r.at(t, 2).goesTo(t, 3, with(whole, sealedItem(key, v, id)))
		}
	}
}

// TestAsksThatDoNotAgree (P11).
func TestAsksThatDoNotAgree(t *testing.T) {
	for _, id := range []int{1, 3, 5} {
		r := roundOf(id)
		all := askOf(1, 3, 5)
		list := []api.Frame{askOf(id), without(all, id), with(without(all, id), api.Item{Id: 2}), askOf(2, 4)}
		for _, v := range []int{2, 4, 6, 7, 12} {
			list = append(list, with(all, api.Item{Id: v}), with(askOf(id), api.Item{Id: v}), askOf(v))
		}
		for _, f := range append(list, askOf(upTo(6)...), askOf(upTo(12)...)) {
			r.halts(t, r.at(t, 3), f)
		}
		r.at(t, 3).goesTo(t, 4, all)
		for _, x := range without(all, id).Items {
			r.at(t, 3).goesTo(t, 4, with(askOf(id), x))
		}
	}
}

// TestAloneItHaltsToo (P9, P10, P11): one client, of whom one must stay.
func TestAloneItHaltsToo(t *testing.T) {
	g := groupOf(rand.New(rand.NewSource(22)), api.Config{N: 1, T: 1, M: 1, D: 1})
	r := round{g, 1, g.keys(1), api.Frame{Kind: api.Box}, askOf(1)}
	own := g.clients[0].public()
	r.halts(t, r.at(t, 1), with(r.keys, api.Item{Id: 1, A: own.A, B: plainPower(own.B, 3)}))
	r.halts(t, r.at(t, 1), with(r.keys, api.Item{Id: 2, A: own.A, B: own.B}))
	r.halts(t, r.at(t, 2), with(r.box, sealedItem(1, 2, 1)))
	r.halts(t, r.at(t, 2), with(r.box, sealedItem(plainPower(own.A, g.clients[0].draw.Channel), 1, 1)))
	r.halts(t, r.at(t, 3), askOf(2))
	r.halts(t, r.at(t, 3), askOf(1, 2))
	r.at(t, 4)
}

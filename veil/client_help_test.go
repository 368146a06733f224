package veil_test

import (
	"bytes"
	"math/rand"
	"slices"
	"testing"

	"veil/api"
	"veil/veil"
)

// plainClient is a client as the document words it; it reckons with numbers of
// any size.
type plainClient struct {
	config   api.Config
	id       int
	draw     api.Draw
	phase    int
	keys     map[int]api.Item // of FIRST, the public keys
	shares   map[int][2]int   // of SECOND, the mask share and the seed share
	released []api.Item
}

func newPlain(c api.Config, id int, d api.Draw) *plainClient {
	d.Input = slices.Clone(d.Input)
	d.SplitMask = slices.Clone(d.SplitMask)
	d.SplitSeed = slices.Clone(d.SplitSeed)
	return &plainClient{config: c, id: id, draw: d, phase: 1}
}

// public is the client's item of a Keys frame.
func (p *plainClient) public() api.Item {
	return api.Item{Id: p.id, A: plainPower(37, p.draw.Channel), B: plainPower(37, p.draw.Mask)}
}

func (p *plainClient) hello() []byte {
	return plainBytes(api.Frame{Kind: api.Hello, From: p.id, Items: []api.Item{p.public()}})
}

// sharesFor are the mask share and the seed share number v.
func (p *plainClient) sharesFor(v int) [2]int {
	mask := plainValue(append([]int{p.draw.Mask}, p.draw.SplitMask...), v)
	seed := plainValue(append([]int{p.draw.Seed}, p.draw.SplitSeed...), v)
	return [2]int{mask, seed}
}

func (p *plainClient) channelKey(v int) int { return plainPower(p.keys[v].A, p.draw.Channel) }

func (p *plainClient) maskKey(v int) int { return plainPower(p.keys[v].B, p.draw.Mask) }

// plainMask is the number i of Stretch.
func plainMask(seed, i int) int { return plainPad(seed, i) >> 20 & (api.Word - 1) }

func plainMinus(a, b int) int { return plainPlus(a, api.Prime-b) }

// plainOpen opens as the document words it.
func plainOpen(w way, s sealed) ([2]int, bool) {
	q := 64*w.from + 4*w.to
	a := plainMinus(s.x, plainPad(w.key, q))
	b := plainMinus(s.y, plainPad(w.key, q+1))
	if plainSeal(w, a, b) != s {
		return [2]int{}, false
	}
	return [2]int{a, b}, true
}

// take gives the answer, and nil where there is none.
func (p *plainClient) take(b []byte) []byte {
	f, ok := plainRead(b)
	if !ok || p.phase == 0 || p.phase == 4 || f.Kind != [...]int{0, api.Keys, api.Box, api.Ask}[p.phase] {
		return nil
	}
	var answer api.Frame
	switch p.phase {
	case 1:
		answer, ok = p.takeKeys(f.Items)
	case 2:
		answer, ok = p.takeBox(f.Items)
	case 3:
		answer, ok = p.takeAsk(f.Items)
	}
	if !ok {
		p.phase = 0
		return nil
	}
	p.phase++
	return plainBytes(answer)
}

func (p *plainClient) takeKeys(items []api.Item) (api.Frame, bool) {
	p.keys = map[int]api.Item{}
	for _, x := range items {
		if x.Id > p.config.N {
			return api.Frame{}, false
		}
		p.keys[x.Id] = x
	}
	if len(items) < p.config.T || p.keys[p.id] != p.public() {
		return api.Frame{}, false
	}
	answer := api.Frame{Kind: api.Shares, From: p.id}
	for v := 1; v <= 12; v++ {
		if _, ok := p.keys[v]; ok && v != p.id {
			own := p.sharesFor(v)
			s := plainSeal(way{p.channelKey(v), p.id, v}, own[0], own[1])
			answer.Items = append(answer.Items, api.Item{Id: v, A: s.x, B: s.y, C: s.z})
		}
	}
	return answer, true
}

func (p *plainClient) takeBox(items []api.Item) (api.Frame, bool) {
	p.shares = map[int][2]int{p.id: p.sharesFor(p.id)}
	for _, x := range items {
		opened, ok := plainOpen(way{p.channelKey(x.Id), x.Id, p.id}, sealed{x.A, x.B, x.C})
		if _, known := p.keys[x.Id]; !known || !ok || x.Id == p.id {
			return api.Frame{}, false
		}
		p.shares[x.Id] = opened
	}
	if len(p.shares) < p.config.T {
		return api.Frame{}, false
	}
	answer := api.Frame{Kind: api.Masked, From: p.id}
	for i, number := range p.draw.Input {
		sum := number + plainMask(p.draw.Seed, i+1)
		for v := range p.shares {
			if v > p.id {
				sum += plainMask(p.maskKey(v), i+1)
			} else if v < p.id {
				sum -= plainMask(p.maskKey(v), i+1)
			}
		}
		answer.Items = append(answer.Items, api.Item{Id: i + 1, A: sum & (api.Word - 1)})
	}
	return answer, true
}

func (p *plainClient) takeAsk(items []api.Item) (api.Frame, bool) {
	third := map[int]bool{}
	for _, x := range items {
		if _, ok := p.shares[x.Id]; !ok {
			return api.Frame{}, false
		}
		third[x.Id] = true
	}
	if len(third) < p.config.T || !third[p.id] {
		return api.Frame{}, false
	}
	answer := api.Frame{Kind: api.Tell, From: p.id}
	for v := 1; v <= 12; v++ {
		if s, ok := p.shares[v]; ok && third[v] {
			answer.Items = append(answer.Items, api.Item{Id: v, A: 1, B: s[1]})
		} else if ok {
			answer.Items = append(answer.Items, api.Item{Id: v, A: 2, B: s[0]})
		}
	}
	p.released = answer.Items
	return answer, true
}

// drawOf draws a draw of c, edges often.
func drawOf(r *rand.Rand, c api.Config) api.Draw {
	l := someElements(r, 3)
	d := api.Draw{Channel: l[0], Mask: l[1], Seed: l[2]}
	for i := 0; i < c.M; i++ {
		d.Input = append(d.Input, within(r, span{0, api.Word - 1}))
	}
	d.SplitMask = someElements(r, c.T-1)
	d.SplitSeed = someElements(r, c.T-1)
	return d
}

// group is all clients of a configuration; number v is at the place v - 1.
type group struct {
	config  api.Config
	clients []*plainClient
}

func groupOf(r *rand.Rand, c api.Config) group {
	g := group{config: c}
	for id := 1; id <= c.N; id++ {
		g.clients = append(g.clients, newPlain(c, id, drawOf(r, c)))
	}
	return g
}

// keys is the Keys frame of some clients.
func (g group) keys(first ...int) api.Frame {
	f := api.Frame{Kind: api.Keys}
	for _, v := range first {
		f.Items = append(f.Items, g.clients[v-1].public())
	}
	return f
}

// box is the Box frame To id, of what others have sealed.
func (g group) box(id int, others ...int) api.Frame {
	f := api.Frame{Kind: api.Box}
	for _, v := range others {
		if v != id {
			f.Items = append(f.Items, g.sealed(v, id))
		}
	}
	return f
}

// sealed is the item of what v has sealed for id.
func (g group) sealed(v, id int) api.Item {
	p := g.clients[v-1]
	own := p.sharesFor(id)
	key := plainPower(g.clients[id-1].public().A, p.draw.Channel)
	s := plainSeal(way{key, v, id}, own[0], own[1])
	return api.Item{Id: v, A: s.x, B: s.y, C: s.z}
}

func askOf(third ...int) api.Frame {
	f := api.Frame{Kind: api.Ask}
	for _, v := range third {
		f.Items = append(f.Items, api.Item{Id: v})
	}
	return f
}

// pair is a client, and what the document says of it.
type pair struct {
	real  *veil.Client
	plain *plainClient
}

// pairOf begins with client id of the group.
func (g group) pairOf(t *testing.T, id int) pair {
	t.Helper()
	return pairFor(t, g.config, id, g.clients[id-1].draw)
}

func pairFor(t *testing.T, c api.Config, id int, d api.Draw) pair {
	t.Helper()
	x, e := veil.NewClient(c, id, d)
	if x == nil || e != api.OK {
		t.Fatalf("P8: NewClient(%v, %d, %v) = %v, %d", c, id, d, x, e)
	}
	p := pair{x, newPlain(c, id, d)}
	p.check(t)
	return p
}

// check compares all that a client shows.
func (p pair) check(t *testing.T) {
	t.Helper()
	if h := p.real.Hello(); !bytes.Equal(h, p.plain.hello()) {
		t.Errorf("P8: Hello() = %v at phase %d, want %v", h, p.plain.phase, p.plain.hello())
	}
	if n := p.real.Phase(); n != p.plain.phase {
		t.Errorf("P8: Phase() = %d, want %d", n, p.plain.phase)
	}
	l := p.real.Released()
	if !slices.Equal(l, p.plain.released) || (l == nil) != (p.plain.phase != 4) {
		t.Errorf("P11: Released() = %v at phase %d, want %v", l, p.plain.phase, p.plain.released)
	}
}

// take compares an answer, and where the client stands then.
func (p pair) take(t *testing.T, b []byte) {
	t.Helper()
	before := p.plain.phase
	want := p.plain.take(b)
	got := p.real.Take(b)
	if !bytes.Equal(got, want) || (got == nil) != (want == nil) {
		t.Errorf("P9 to P11: Take(%v) = %v at phase %d of client %d of %v, want %v", b, got, before, p.plain.id, p.plain.config, want)
	}
	p.check(t)
}

// goesTo takes what agrees, and is at this phase then.
func (p pair) goesTo(t *testing.T, phase int, f api.Frame) {
	t.Helper()
	p.take(t, plainBytes(f))
	if p.real.Phase() != phase {
		t.Errorf("P9: phase %d after %v, want %d", p.real.Phase(), f, phase)
	}
}

// stays takes what is not waited for.
func (p pair) stays(t *testing.T, b []byte) {
	t.Helper()
	before := p.real.Phase()
	p.take(t, b)
	if p.real.Phase() != before {
		t.Errorf("P9: phase %d after %v, want %d", p.real.Phase(), b, before)
	}
}

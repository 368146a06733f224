package veil_test

import (
	"bytes"
	"math/big"
	"math/rand"
	"slices"
	"testing"

	"veil/api"
	"veil/veil"
)

// plainServer is a server as the document words it; it reckons with numbers of
// any size.
type plainServer struct {
	config  api.Config
	time    int
	round   int
	counted [4]map[int]api.Frame // the frames of U0, U1, U2 and U3
	outcome api.Outcome
}

func newPlainServer(c api.Config) *plainServer {
	p := &plainServer{config: c}
	for i := range p.counted {
		p.counted[i] = map[int]api.Frame{}
	}
	return p
}

// has tells whether u is of U0, U1, U2 or U3.
func (p *plainServer) has(round, u int) bool {
	_, ok := p.counted[round][u]
	return ok
}

// all gives U0, U1, U2 or U3, rising.
func (p *plainServer) all(round int) []int {
	var l []int
	for u := 1; u <= 12; u++ {
		if p.has(round, u) {
			l = append(l, u)
		}
	}
	return l
}

func itemWith(f api.Frame, id int) (api.Item, bool) {
	for _, x := range f.Items {
		if x.Id == id {
			return x, true
		}
	}
	return api.Item{}, false
}

func (p *plainServer) take(b []byte) bool {
	f, ok := plainRead(b)
	if !ok || p.outcome.State != api.Pending || f.Kind != 2*p.round+1 || f.From > p.config.N {
		return false
	}
	if p.has(p.round, f.From) || p.round > 0 && !p.has(p.round-1, f.From) || p.round == 2 && len(f.Items) != p.config.M {
		return false
	}
	for id := 1; id <= 12; id++ {
		x, ok := itemWith(f, id)
		if p.round == 1 && ok != (p.has(0, id) && id != f.From) {
			return false
		}
		if p.round == 3 && (ok != p.has(1, id) || ok && (x.A == 1) != p.has(2, id)) {
			return false
		}
	}
	p.counted[p.round][f.From] = f
	return true
}

func (p *plainServer) tick() []api.Parcel {
	if p.outcome.State != api.Pending {
		return nil
	}
	p.time++
	if p.time != p.config.D*(p.round+1) {
		return nil
	}
	stayed := p.all(p.round)
	if len(stayed) < p.config.T {
		p.outcome = api.Outcome{State: api.Stopped, Round: p.round}
		return nil
	}
	if p.round == 3 {
		p.outcome = api.Outcome{State: api.Done, Set: p.all(2), Sum: p.sum()}
		return nil
	}
	var l []api.Parcel
	for _, u := range stayed {
		l = append(l, api.Parcel{To: u, Bytes: plainBytes(p.frameFor(u))})
	}
	p.round++
	return l
}

func (p *plainServer) frameFor(u int) api.Frame {
	f := api.Frame{Kind: 2*p.round + 2}
	for _, v := range p.all(p.round) {
		x := api.Item{}
		switch p.round {
		case 0:
			x, _ = itemWith(p.counted[0][v], v)
		case 1:
			x, _ = itemWith(p.counted[1][v], u)
		}
		x.Id = v
		if p.round != 1 || u != v {
			f.Items = append(f.Items, x)
		}
	}
	return f
}

// plainJoin joins as Lagrange does.
func plainJoin(points []api.Point) int {
	sum := new(big.Int)
	for i, p := range points {
		above, below := large(p.Y), large(1)
		for j, q := range points {
			if i != j {
				above.Mul(above, large(q.X))
				below.Mul(below, large(q.X-p.X))
			}
		}
		below.Mod(below, prime)
		sum.Add(sum, above.Mul(above, below.ModInverse(below, prime)))
	}
	return reduced(sum)
}

// told joins what U3 have told of v.
func (p *plainServer) told(v int) int {
	var points []api.Point
	for _, w := range p.all(3) {
		x, _ := itemWith(p.counted[3][w], v)
		points = append(points, api.Point{X: w, Y: x.B})
	}
	return plainJoin(points)
}

func (p *plainServer) sum() []int {
	sum := make([]int, p.config.M)
	for _, u := range p.all(2) {
		seed := p.told(u)
		for i := range sum {
			sum[i] += p.counted[2][u].Items[i].A - plainMask(seed, i+1)
		}
	}
	for _, v := range p.all(1) {
		if p.has(2, v) {
			continue
		}
		k := p.told(v)
		for _, u := range p.all(2) {
			hello := p.counted[0][u].Items[0]
			key := plainPower(hello.B, k)
			for i := range sum {
				if u < v {
					sum[i] -= plainMask(key, i+1)
				} else {
					sum[i] += plainMask(key, i+1)
				}
			}
		}
	}
	for i := range sum {
		sum[i] = sum[i] & (api.Word - 1)
	}
	return sum
}

// serverPair is a server, and what the document says of it.
type serverPair struct {
	real  *veil.Server
	plain *plainServer
}

func serverFor(t *testing.T, c api.Config) serverPair {
	t.Helper()
	x, e := veil.NewServer(c)
	if x == nil || e != api.OK {
		t.Fatalf("P12: NewServer(%v) = %v, %d", c, x, e)
	}
	p := serverPair{x, newPlainServer(c)}
	p.check(t)
	return p
}

// sameOutcome: lists that are nil and lists that are empty are not the same.
func sameOutcome(o, want api.Outcome) bool {
	if o.State != want.State || o.Round != want.Round {
		return false
	}
	return same(o.Set, want.Set) && same(o.Sum, want.Sum) && (o.Set == nil) == (want.Set == nil) && (o.Sum == nil) == (want.Sum == nil)
}

// check compares the outcome.
func (p serverPair) check(t *testing.T) {
	t.Helper()
	if o := p.real.Outcome(); !sameOutcome(o, p.plain.outcome) {
		t.Errorf("P14: Outcome() = %v at time %d of %v, want %v", o, p.plain.time, p.plain.config, p.plain.outcome)
	}
}

// take compares whether bytes are counted.
func (p serverPair) take(t *testing.T, b []byte) bool {
	t.Helper()
	want := p.plain.take(b)
	if got := p.real.Take(b); got != want {
		t.Errorf("P12: Take(%v) = %v in round %d of %v, want %v", b, got, p.plain.round, p.plain.config, want)
	}
	p.check(t)
	return want
}

// counts takes a frame that is to be counted.
func (p serverPair) counts(t *testing.T, f api.Frame) {
	t.Helper()
	if !p.take(t, plainBytes(f)) {
		t.Errorf("P12: %v should be counted in round %d of %v", f, p.plain.round, p.plain.config)
	}
}

// leaves takes bytes that are not to be counted.
func (p serverPair) leaves(t *testing.T, b []byte) {
	t.Helper()
	if p.take(t, b) {
		t.Errorf("P12: %v should not be counted in round %d of %v", b, p.plain.round, p.plain.config)
	}
}

func sameParcels(l, want []api.Parcel) bool {
	if len(l) != len(want) || (l == nil) != (want == nil) {
		return false
	}
	for i := range l {
		if l[i].From != want[i].From || l[i].To != want[i].To || !bytes.Equal(l[i].Bytes, want[i].Bytes) {
			return false
		}
	}
	return true
}

// tick compares what is sent, and how it stands then.
func (p serverPair) tick(t *testing.T) []api.Parcel {
	t.Helper()
	want := p.plain.tick()
	if l := p.real.Tick(); !sameParcels(l, want) {
		t.Errorf("P13: Tick() = %v at time %d of %v, want %v", l, p.plain.time, p.plain.config, want)
	}
	p.check(t)
	return want
}

// ends lets time go by till the round is over.
func (p serverPair) ends(t *testing.T) []api.Parcel {
	t.Helper()
	for i := 1; i < p.plain.config.D; i++ {
		p.tick(t)
	}
	return p.tick(t)
}

// stands: the outcome is this one, whatever the plain server says.
func (p serverPair) stands(t *testing.T, want api.Outcome) {
	t.Helper()
	if o := p.real.Outcome(); !sameOutcome(o, want) {
		t.Errorf("P14: Outcome() = %v, want %v", o, want)
	}
}

// course is what clients send to a server of whom some fall out in each round.
type course struct {
	group  group
	stay   [4][]int // U0, U1, U2 and U3
	frames [4]map[int]api.Frame
}

// courseOf lets clients of a configuration answer a plain server. What those
// would send that fall out in a round is in frames too.
func courseOf(r *rand.Rand, c api.Config, stay [4][]int) course {
	k := course{group: groupOf(r, c), stay: stay}
	s := newPlainServer(c)
	for i := range k.frames {
		k.frames[i] = map[int]api.Frame{}
	}
	for _, x := range k.group.clients {
		k.frames[0][x.id], _ = plainRead(x.hello())
	}
	for i, stayed := range stay {
		for _, u := range stayed {
			s.take(plainBytes(k.frames[i][u]))
		}
		for range c.D {
			for _, l := range s.tick() {
				answer := k.group.clients[l.To-1].take(l.Bytes)
				k.frames[i+1][l.To], _ = plainRead(answer)
			}
		}
	}
	return k
}

// sends lets those send who stay in a round.
func (k course) sends(t *testing.T, p serverPair, round int) {
	t.Helper()
	for _, u := range k.stay[round] {
		p.counts(t, k.frames[round][u])
	}
}

// at gives the server of the course at the beginning of a round, and at its
// end for 4.
func (k course) at(t *testing.T, round int) serverPair {
	t.Helper()
	p := serverFor(t, k.group.config)
	k.goesOn(t, p, 0, round)
	return p
}

// goesOn brings a server from the beginning of a round to that of another.
func (k course) goesOn(t *testing.T, p serverPair, from, to int) {
	t.Helper()
	for i := from; i < to; i++ {
		k.sends(t, p, i)
		p.ends(t)
	}
}

// wanted is the sum of the lists of U2, and whose they are.
func (k course) wanted() api.Outcome {
	var draws []api.Draw
	for _, x := range k.group.clients {
		draws = append(draws, x.draw)
	}
	return added(k.group.config, draws, slices.Clone(k.stay[2]))
}

// added is the outcome that is done with the lists of a set.
func added(c api.Config, draws []api.Draw, set []int) api.Outcome {
	o := api.Outcome{State: api.Done, Set: set, Sum: make([]int, c.M)}
	for _, u := range set {
		for i, number := range draws[u-1].Input {
			o.Sum[i] = (o.Sum[i] + number) % api.Word
		}
	}
	return o
}

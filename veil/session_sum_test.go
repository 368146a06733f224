package veil_test

import (
	"math/rand"
	"slices"
	"testing"

	"veil/api"
	"veil/veil"
)

// TestSessionOfTheDocument (P17): the single client.
func TestSessionOfTheDocument(t *testing.T) {
	c := api.Config{N: 1, T: 1, M: 1, D: 1}
	draws := []api.Draw{{Input: []int{7}}}
	p := sessionFor(t, c, draws)
	for _, delivered := range []int{1, 2, 2, 2} {
		p.stands(t, api.Outcome{})
		for range delivered {
			p.deliver(t, 0)
		}
		p.flies(t, nil)
		p.tick(t)
	}
	p.stands(t, api.Outcome{State: api.Done, Set: []int{1}, Sum: []int{7}})
	p = sessionFor(t, c, draws)
	p.drop(t, 0)
	p.tick(t)
	p.stands(t, api.Outcome{State: api.Stopped, Round: 0})
}

// TestTwoClientsOfTheDocument (P17): the Masked frames are those of the
// document; both arrive, or one of them.
func TestTwoClientsOfTheDocument(t *testing.T) {
	c := api.Config{N: 2, T: 1, M: 1, D: 1}
	for dropped, want := range []api.Outcome{{Set: []int{2}, Sum: []int{9}}, {Set: []int{1}, Sum: []int{5}}, {Set: []int{1, 2}, Sum: []int{14}}} {
		p := sessionFor(t, c, []api.Draw{{Input: []int{5}}, {Input: []int{9}}})
		for range 2 {
			p.deliversAll(t)
			p.tick(t)
		}
		p.deliver(t, 0)
		p.deliver(t, 0)
		p.flies(t, []api.Parcel{
			{From: 1, Bytes: plainBytes(frameOf(api.Masked, 1, 1, 15728649, 0, 0))},
			{From: 2, Bytes: plainBytes(frameOf(api.Masked, 2, 1, 4285530119, 0, 0))},
		})
		if dropped < 2 {
			p.drop(t, dropped)
		}
		p.goesOn(t)
		want.State = api.Done
		p.stands(t, want)
	}
}

// ways in which a client falls out of a round.
const (
	loses   = 0 // what it sends is lost
	misses  = 1 // what is sent to it is lost
	crashes = 2
	late    = 3 // what it sends comes when the round is over
)

// loseAll drops all parcels of this kind From or To a client.
func (p sessionPair) loseAll(t *testing.T, kind, u int) {
	t.Helper()
	for i := len(p.plain.flight) - 1; i >= 0; i-- {
		if x := p.plain.flight[i]; int(x.Bytes[0]) == kind && (x.From == u || x.To == u) {
			p.drop(t, i)
		}
	}
}

// arrives delivers all that is in flight From these.
func (p sessionPair) arrives(t *testing.T, from ...int) {
	t.Helper()
	isOne := func(x api.Parcel) bool { return slices.Contains(from, x.From) }
	for i := slices.IndexFunc(p.plain.flight, isOne); i >= 0; i = slices.IndexFunc(p.plain.flight, isOne) {
		p.deliver(t, i)
	}
}

// playsRound lets those of before who do not stay fall out of a round in one of
// the ways; all others answer, and their frames come in time.
func (p sessionPair) playsRound(t *testing.T, round int, before, stay []int, way int) {
	t.Helper()
	gone := slices.DeleteFunc(slices.Clone(before), func(u int) bool { return slices.Contains(stay, u) })
	for _, u := range gone {
		switch way {
		case misses:
			p.loseAll(t, 2*round, u)
		case crashes:
			p.crash(t, u)
		}
	}
	p.arrives(t, 0)
	for _, u := range gone {
		// A Hello is sent before anything is missed, and before any crash.
		if way == loses || way != late && round == 0 {
			p.loseAll(t, 2*round+1, u)
		}
	}
	p.arrives(t, stay...)
	p.ends(t)
	p.arrives(t, gone...)
}

// TestAllWaysToFallOutOfASession (P17): four clients, of whom each falls out
// in any round or in none, because frames to it or of it are lost or late, or
// because it crashes: the sum is that of the lists of those whose Masked
// frames came in time.
func TestAllWaysToFallOutOfASession(t *testing.T) {
	r := rand.New(rand.NewSource(90))
	var ends [5]int
	for digits := range 625 {
		stay := fallOuts(4, digits)
		c := api.Config{N: 4, T: 1 + digits%3, M: 2, D: 1 + digits%2}
		draws := drawsOf(r, c)
		p := sessionFor(t, c, draws)
		before := upTo(4)
		for round := range 4 {
			p.playsRound(t, round, before, stay[round], r.Intn(4))
			before = stay[round]
		}
		round := 0
		for round < 4 && len(stay[round]) >= c.T {
			round++
		}
		want := api.Outcome{State: api.Stopped, Round: round}
		if round == 4 {
			want = added(c, draws, stay[2])
		}
		p.stands(t, want)
		ends[round]++
	}
	if slices.Min(ends[:]) < 10 {
		t.Errorf("the sessions ended in the rounds 0 to 3, or done: %v", ends)
	}
}

// witness sees what is delivered, and knows by that what the outcome must be.
type witness struct {
	config api.Config
	draws  []api.Draw
	real   *veil.Session
	time   int
	masked []int // whose Masked frames came in time
}

func (w *witness) deliver(i int) {
	x := w.real.Flight()[i]
	inTime := w.time >= 2*w.config.D && w.time <= 3*w.config.D-1
	if inTime && x.Bytes[0] == api.Masked && !slices.Contains(w.masked, x.From) {
		w.masked = append(w.masked, x.From)
	}
	w.real.Deliver(i)
}

func (w *witness) tick() {
	w.real.Tick()
	w.time++
}

// step does something that is drawn; now and then it is one that loses,
// doubles or crashes.
func (w *witness) step(draw *rand.Rand, risk int) {
	n := len(w.real.Flight())
	what := draw.Intn(4 + risk)
	if n == 0 || draw.Intn(6*w.config.N) == 0 {
		w.tick()
		return
	}
	switch i := draw.Intn(n); what {
	case 4:
		w.real.Drop(i)
	case 5:
		w.real.Double(i)
	case 6:
		w.real.Inject(draw.Intn(w.config.N+1), noFrameOf(draw, w.real.Flight()[i].Bytes))
	case 7:
		if draw.Intn(8) == 0 {
			w.real.Crash(1 + draw.Intn(w.config.N))
		}
	default:
		w.deliver(i)
	}
}

// noFrameOf gives bytes that are nearly a frame's.
func noFrameOf(draw *rand.Rand, b []byte) []byte {
	for {
		c := slices.Clone(b)
		c[draw.Intn(len(c))] += byte(1 + draw.Intn(255))
		if _, ok := plainRead(c); !ok {
			return c
		}
		b = append(b, 0)
	}
}

// checkEnd compares the outcome with the lists of those whose Masked frames
// came in time.
func (w *witness) checkEnd(t *testing.T) api.Outcome {
	t.Helper()
	o := w.real.Outcome()
	if o.State == api.Pending || w.time > 4*w.config.D {
		t.Fatalf("P17: the outcome is %v at time %d of %v", o, w.time, w.config)
	}
	slices.Sort(w.masked)
	if o.State == api.Done && (len(w.masked) < w.config.T || !sameOutcome(o, added(w.config, w.draws, w.masked))) {
		t.Errorf("P17: the outcome is %v of %v, want %v", o, w.config, added(w.config, w.draws, w.masked))
	}
	if o.State == api.Stopped && (o.Round < 0 || w.time != (o.Round+1)*w.config.D) {
		t.Errorf("P17: the outcome is %v at time %d of %v", o, w.time, w.config)
	}
	return o
}

// staysSo: the outcome stays as it is, whatever comes.
func (w *witness) staysSo(t *testing.T, draw *rand.Rand) {
	t.Helper()
	want := w.real.Outcome()
	for range 30 {
		w.step(draw, 4)
	}
	if o := w.real.Outcome(); !sameOutcome(o, want) {
		t.Errorf("P17: the outcome was %v, and became %v", want, o)
	}
}

// TestWhateverIsLost (P17): parcels lost, doubled, late and in any order,
// clients that crash, and bytes that are no frame's.
func TestWhateverIsLost(t *testing.T) {
	draw := rand.New(rand.NewSource(91))
	var ends [3]int
	fewer := 0
	for i := range 1500 {
		n := 1 + draw.Intn(6)
		c := api.Config{N: n, T: 1 + draw.Intn(n), M: 1 + draw.Intn(3), D: 1 + draw.Intn(12)}
		draws := drawsOf(draw, c)
		w := &witness{config: c, draws: draws, real: sessionFor(t, c, draws).real}
		for w.real.Outcome().State == api.Pending {
			w.step(draw, i%5)
		}
		o := w.checkEnd(t)
		ends[o.State]++
		if o.State == api.Done && len(o.Set) < n {
			fewer++
		}
		w.staysSo(t, draw)
	}
	if min(ends[api.Done], ends[api.Stopped], fewer) < 100 {
		t.Errorf("the sessions ended %v, %d of them done without some client", ends, fewer)
	}
}

// TestLargestSession (P17): all bounds at once.
func TestLargestSession(t *testing.T) {
	c := api.Config{N: 12, T: 12, M: 12, D: 50}
	draws := drawsOf(rand.New(rand.NewSource(92)), c)
	for i := range draws {
		for j := range draws[i].Input {
			draws[i].Input[j] = api.Word - 1 - j
		}
	}
	p := sessionFor(t, c, draws)
	p.goesOn(t)
	p.stands(t, added(c, draws, upTo(12)))
	if p.plain.server.time != 200 {
		t.Errorf("P17: it took %d ticks", p.plain.server.time)
	}
}

// TestFirstAndLastTimeOfARound (P17): a Masked frame counts at the times 2 D
// and 3 D - 1, and neither before nor behind them.
func TestFirstAndLastTimeOfARound(t *testing.T) {
	for _, d := range []int{1, 2, 5, 50} {
		c := api.Config{N: 2, T: 1, M: 2, D: d}
		draws := drawsOf(rand.New(rand.NewSource(93)), c)
		for _, time := range []int{2 * d, 3*d - 1, 3 * d} {
			p := sessionFor(t, c, draws)
			for range 2 {
				p.deliversAll(t)
				p.ends(t)
			}
			p.deliver(t, 0)
			p.deliver(t, 0)
			p.deliver(t, 0)
			for p.plain.server.time < time {
				p.tick(t)
			}
			set := upTo(2)
			if time == 3*d {
				set = upTo(1)
			}
			p.goesOn(t)
			p.stands(t, added(c, draws, set))
		}
	}
}

// TestBehindFourRounds (P17): the outcome is pending till the last tick, and
// then no more, whether anything is delivered or not.
func TestBehindFourRounds(t *testing.T) {
	for d := 1; d <= 50; d++ {
		c := api.Config{N: 2, T: 2, M: 1, D: d}
		draws := drawsOf(rand.New(rand.NewSource(94)), c)
		for lost := range 5 {
			p := sessionFor(t, c, draws)
			for time := range 4 * d {
				if time < (lost+1)*d {
					p.stands(t, api.Outcome{})
				}
				if lost > time/d {
					p.deliversAll(t)
				}
				p.tick(t)
			}
			want := api.Outcome{State: api.Stopped, Round: lost}
			if lost == 4 {
				want = added(c, draws, upTo(2))
			}
			p.stands(t, want)
			p.ends(t)
			p.deliversAll(t)
			p.stands(t, want)
		}
	}
}

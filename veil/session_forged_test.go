package veil_test

import (
	"math/rand"
	"slices"
	"testing"

	"veil/api"
)

// someone draws a number that is mostly that of the server or of a client.
func someone(draw *rand.Rand, n int) int {
	if draw.Intn(20) == 0 {
		return anyNumbers[draw.Intn(len(anyNumbers))]
	}
	return draw.Intn(n + 1)
}

// forgery draws bytes that somebody might take for a frame: those of a parcel,
// changed ones, and any of a kind.
func forgery(draw *rand.Rand, p *plainSession, to int) []byte {
	if n := len(p.flight); n > 0 && draw.Intn(2) == 0 {
		f, _ := plainRead(p.flight[draw.Intn(n)].Bytes)
		return plainBytes(changed(draw, f))
	}
	if to == 0 {
		return plainBytes(changed(draw, anyFrame(draw, p.server, 1+draw.Intn(p.config.N))))
	}
	switch draw.Intn(4) {
	case 0:
		f := api.Frame{Kind: api.Keys}
		for _, x := range p.clients {
			f.Items = append(f.Items, x.public())
		}
		return plainBytes(changed(draw, f))
	case 1:
		return plainBytes(askOf(someOf(draw, upTo(p.config.N), 1, 1)...))
	case 2:
		return []byte{4, 0, 0}
	}
	b := make([]byte, draw.Intn(40))
	draw.Read(b)
	return b
}

// anyStep does something that is drawn, be it right or wrong.
func (p sessionPair) anyStep(t *testing.T, draw *rand.Rand, forge int) {
	t.Helper()
	i := draw.Intn(len(p.plain.flight) + 1)
	if draw.Intn(30) == 0 {
		i = anyNumbers[draw.Intn(len(anyNumbers))]
	}
	n := p.plain.config.N
	switch what := draw.Intn(60 + forge); {
	case what < 4:
		p.tick(t)
	case what < 6:
		p.drop(t, i)
	case what < 9:
		p.double(t, i)
	case what == 9 && draw.Intn(6) == 0:
		p.crash(t, someone(draw, n))
	case what < 60:
		p.deliver(t, i)
	default:
		to := someone(draw, n)
		p.inject(t, to, forgery(draw, p.plain, to))
	}
}

// TestDrawnSessions (P15, P16): all calls on ways that are drawn; after each of
// them the session shows what the document says.
func TestDrawnSessions(t *testing.T) {
	draw := rand.New(rand.NewSource(95))
	var ends [3]int
	for i := range 600 {
		n := 1 + draw.Intn(5)
		c := api.Config{N: n, T: 1 + draw.Intn(n), M: 1 + draw.Intn(3), D: 1 + draw.Intn(3)}
		p := sessionFor(t, c, drawsOf(draw, c))
		for p.plain.server.outcome.State == api.Pending {
			p.anyStep(t, draw, []int{0, 1, 6, 20}[i%4])
		}
		for range 20 {
			p.anyStep(t, draw, 20)
		}
		ends[p.plain.server.outcome.State]++
	}
	if min(ends[api.Done], ends[api.Stopped]) < 60 {
		t.Errorf("the sessions ended %v", ends)
	}
}

// TestWhateverIsForged (P17): behind 4 D ticks the outcome is not pending, and
// then stays as it is.
func TestWhateverIsForged(t *testing.T) {
	draw := rand.New(rand.NewSource(96))
	var ends [3]int
	for range 150 {
		n := 1 + draw.Intn(4)
		c := api.Config{N: n, T: 1, M: 1, D: 1 + draw.Intn(2)}
		p := sessionFor(t, c, drawsOf(draw, c))
		for range 4 * c.D {
			for range 4 * n {
				to := draw.Intn(n + 1)
				p.inject(t, to, forgery(draw, p.plain, to))
			}
			p.tick(t)
		}
		want := p.real.Outcome()
		ends[want.State]++
		for range 40 {
			p.anyStep(t, draw, 60)
		}
		p.stands(t, want)
	}
	if ends[api.Pending] > 0 || min(ends[api.Done], ends[api.Stopped]) < 15 {
		t.Errorf("the sessions ended %v", ends)
	}
}

// TestForgedFirst (P16): a frame that somebody else has put in before the right
// one of a client counts in its place, and makes a client halt, or the sum
// another one.
func TestForgedFirst(t *testing.T) {
	all := upTo(3)
	hello := atRound(t, 0)
	hello.inject(t, 0, plainBytes(frameOf(api.Hello, 2, 2, 5, 6, 0)))
	hello.goesOn(t)
	hello.stands(t, added(momentConfig, momentDraws(), []int{1, 3}))
	keys := atRound(t, 1)
	keys.inject(t, 3, plainBytes(frameOf(api.Keys, 0, 3, 5, 6, 0)))
	keys.goesOn(t)
	keys.stands(t, added(momentConfig, momentDraws(), []int{1, 2}))
	box := atRound(t, 2)
	box.inject(t, 1, plainBytes(frameOf(api.Box, 0, 2, 1, 2, 3)))
	box.goesOn(t)
	box.stands(t, added(momentConfig, momentDraws(), []int{2, 3}))
	masked := atRound(t, 2)
	masked.inject(t, 0, plainBytes(frameOf(api.Masked, 1, 1, 0, 0, 0, 2, 0, 0, 0)))
	masked.goesOn(t)
	right := added(momentConfig, momentDraws(), all)
	if o := masked.real.Outcome(); !slices.Equal(o.Set, all) || same(o.Sum, right.Sum) {
		t.Errorf("P16: with a forged list the outcome is %v", o)
	}
	ask := atRound(t, 3)
	ask.inject(t, 2, plainBytes(askOf(1, 3)))
	ask.goesOn(t)
	ask.stands(t, right)
	if l := ask.real.Released(2); l != nil {
		t.Errorf("P16: Released(2) = %v of who has halted", l)
	}
}

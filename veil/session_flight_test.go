package veil_test

import (
	"math/rand"
	"slices"
	"testing"

	"veil/api"
)

// noPlaces are numbers of no parcel, if there are n.
func noPlaces(n int) []int {
	return []int{least, -1<<32 - 1, -n, -2, -1, n, n + 1, n + 2, 2*n + 2, 200, 201, 1 << 32, most - 1, most}
}

// TestNoSuchParcel (P16, P1): Deliver, Drop and Double of what is not in flight
// change nothing.
func TestNoSuchParcel(t *testing.T) {
	inEachMoment(t, func(t *testing.T, begin func() sessionPair) {
		p := begin()
		before := copiedParcels(p.plain.flight)
		for _, i := range noPlaces(len(before)) {
			if i >= 0 && i < len(before) {
				continue
			}
			p.answers(t, "Deliver", i, p.real.Deliver(i), api.ErrIndex)
			p.answers(t, "Drop", i, p.real.Drop(i), api.ErrIndex)
			p.answers(t, "Double", i, p.real.Double(i), api.ErrIndex)
			p.flies(t, before)
		}
		p.goesOn(t)
	})
}

// TestEachParcelIsDropped (P16): it leaves, the others stay as they are, and
// nobody receives it.
func TestEachParcelIsDropped(t *testing.T) {
	inEachMoment(t, func(t *testing.T, begin func() sessionPair) {
		for i := range begin().plain.flight {
			p := begin()
			want := slices.Delete(copiedParcels(p.plain.flight), i, i+1)
			p.drop(t, i)
			p.flies(t, want)
			p.goesOn(t)
		}
	})
}

// TestEachParcelIsDoubled (P16): one like it becomes the last, and nobody
// receives anything.
func TestEachParcelIsDoubled(t *testing.T) {
	inEachMoment(t, func(t *testing.T, begin func() sessionPair) {
		for i := range begin().plain.flight {
			p := begin()
			want := copiedParcels(p.plain.flight)
			want = append(want, want[i])
			p.double(t, i)
			p.flies(t, want)
			p.double(t, i)
			p.flies(t, append(want, want[i]))
			p.goesOn(t)
		}
	})
}

// TestEachParcelIsDelivered (P16): it leaves, the others stay as they are, and
// the answer, if there is one, stands behind them all.
func TestEachParcelIsDelivered(t *testing.T) {
	answered, silent, server, crashed := 0, 0, 0, 0
	inEachMoment(t, func(t *testing.T, begin func() sessionPair) {
		for i := range begin().plain.flight {
			p := begin()
			x := p.plain.flight[i]
			rest := slices.Delete(copiedParcels(p.plain.flight), i, i+1)
			p.deliver(t, i)
			l := p.real.Flight()
			switch {
			case x.To == 0:
				server++
			case p.plain.crashed[x.To]:
				crashed++
			case len(l) == len(rest):
				silent++
			default:
				answered++
				if y := l[len(l)-1]; y.From != x.To || y.To != 0 || y.Bytes[0] != x.Bytes[0]+1 || int(y.Bytes[1]) != x.To {
					t.Errorf("P16: %v is answered by %v", x, y)
				}
				l = l[:len(l)-1]
			}
			if !sameFlight(l, rest) {
				t.Errorf("P16: behind Deliver(%d) there were %v, want %v", i, l, rest)
			}
			p.goesOn(t)
		}
	})
	if min(answered, silent, server, crashed) < 5 {
		t.Errorf("%d were answered, %d not; %d went to the server, %d to who had crashed", answered, silent, server, crashed)
	}
}

// TestToWhomItIsDelivered (P16): of two that differ, each receives its own.
func TestToWhomItIsDelivered(t *testing.T) {
	c := api.Config{N: 3, T: 1, M: 1, D: 1}
	draws := drawsOf(rand.New(rand.NewSource(75)), c)
	for u := 1; u <= 3; u++ {
		p := sessionFor(t, c, draws)
		p.deliversAll(t)
		p.tick(t)
		for range 3 {
			p.deliver(t, 0)
		}
		if l := p.real.Flight(); l[0].From != 1 || l[1].From != 2 || l[2].From != 3 {
			t.Errorf("P16: the answers are %v", l)
		}
		p.deliver(t, u-1)
		p.tick(t)
		l := p.real.Flight()
		if box := l[len(l)-1]; len(l) != 3 || box.From != 0 || box.To != u || !slices.Equal(box.Bytes, []byte{4, 0, 0}) {
			t.Errorf("P16: behind the Shares of %d there were %v", u, l)
		}
	}
}

// filled doubles parcels till so many are in flight.
func (p sessionPair) filled(t *testing.T, many int) {
	t.Helper()
	for i := 0; len(p.plain.flight) < many; i++ {
		if e := p.real.Double(i); e != api.OK {
			t.Fatalf("P16: Double(%d) = %d with %d in flight", i, e, len(p.plain.flight))
		}
		p.plain.double(i)
	}
	p.check(t)
}

// doublesNone: there are too many in flight, and nothing is changed.
func (p sessionPair) doublesNone(t *testing.T) {
	t.Helper()
	n := len(p.plain.flight)
	for _, i := range []int{0, 1, n / 2, n - 2, n - 1} {
		p.answers(t, "Double", i, p.real.Double(i), api.ErrFull)
	}
	for _, i := range []int{least, -1, n, n + 1, most} {
		p.answers(t, "Double", i, p.real.Double(i), api.ErrIndex)
	}
}

// TestFullFlight (P16): with 199 in flight one more is made, with 200 none.
func TestFullFlight(t *testing.T) {
	for _, n := range []int{1, 3, 12} {
		c := api.Config{N: n, T: 1, M: 1, D: 1}
		p := sessionFor(t, c, drawsOf(rand.New(rand.NewSource(76)), c))
		p.filled(t, 199)
		p.double(t, 198)
		p.doublesNone(t)
		p.drop(t, 100)
		p.double(t, 0)
		p.doublesNone(t)
		p.deliver(t, 199)
		p.double(t, 5)
		p.doublesNone(t)
		p.goesOn(t)
	}
}

// TestMoreThanFull (P16): what the server sends and what clients answer joins
// a flight that is full, and it can be doubled again as soon as there is room.
func TestMoreThanFull(t *testing.T) {
	c := api.Config{N: 12, T: 1, M: 1, D: 1}
	draws := drawsOf(rand.New(rand.NewSource(77)), c)
	p := sessionFor(t, c, draws)
	for range 12 {
		p.double(t, 0)
		p.deliver(t, 0)
	}
	p.filled(t, 200)
	p.tick(t)
	if n := len(p.real.Flight()); n != 212 {
		t.Errorf("P16: %d are in flight, want 212", n)
	}
	p.doublesNone(t)
	for range 12 {
		p.deliver(t, 200)
		p.doublesNone(t)
	}
	for _, x := range p.plain.flight[200:] {
		p.inject(t, 0, x.Bytes)
	}
	p.tick(t)
	if n := len(p.real.Flight()); n != 224 {
		t.Errorf("P16: %d are in flight, want 224", n)
	}
	for len(p.plain.flight) > 201 {
		p.drop(t, 0)
	}
	p.doublesNone(t)
	p.drop(t, 0)
	p.doublesNone(t)
	p.inject(t, 12, p.plain.flight[199].Bytes)
	p.doublesNone(t)
	p.drop(t, 0)
	p.drop(t, 0)
	p.double(t, 198)
	p.doublesNone(t)
	p.goesOn(t)
	p.stands(t, added(c, draws, upTo(12)))
}

// TestLateTwiceOrNever (P16): a parcel stays in flight till it is delivered or
// dropped, and one that was doubled is delivered twice.
func TestLateTwiceOrNever(t *testing.T) {
	c := api.Config{N: 2, T: 1, M: 1, D: 3}
	draws := drawsOf(rand.New(rand.NewSource(78)), c)
	p := sessionFor(t, c, draws)
	p.double(t, 0)
	hello := p.real.Flight()[2]
	p.deliver(t, 0)
	p.ends(t)
	p.flies(t, []api.Parcel{p.plain.flight[0], hello, {From: 0, To: 1, Bytes: p.plain.flight[2].Bytes}})
	p.double(t, 2)
	p.deliver(t, 2)
	p.deliver(t, 2)
	p.flies(t, []api.Parcel{p.plain.flight[0], hello, {From: 1, To: 0, Bytes: []byte{3, 1, 0}}})
	for range 3 {
		p.deliver(t, 0)
	}
	p.flies(t, nil)
	p.goesOn(t)
	p.stands(t, added(c, draws, []int{1}))
}

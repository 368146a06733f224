package veil_test

import (
	"bytes"
	"math/rand"
	"slices"
	"testing"

	"veil/api"
	"veil/veil"
)

// TestAnyServers (P1): NewServer ends at all numbers, and gives either a server
// or an error.
func TestAnyServers(t *testing.T) {
	r := rand.New(rand.NewSource(60))
	number := func() int { return anyNumbers[r.Intn(len(anyNumbers))] }
	for range 50000 {
		c := api.Config{N: number(), T: number(), M: number(), D: number()}
		x, e := veil.NewServer(c)
		if (x == nil) == (e == api.OK) || e != api.OK && e != api.ErrConfig {
			t.Errorf("P1: NewServer(%v) = %v, %d", c, x, e)
		}
	}
}

// TestAnyBytesToServers (P1, P12): Take ends at all bytes, in each round and at
// the end, and does what the document says.
func TestAnyBytesToServers(t *testing.T) {
	draw := rand.New(rand.NewSource(61))
	k := countCourse()
	for i := range 1500 {
		round := i % 5
		p := k.at(t, round)
		for range 20 {
			b := make([]byte, draw.Intn(90))
			draw.Read(b)
			if len(b) > 4 && draw.Intn(4) > 0 {
				b[0] = byte(2*round + 1)
				b[1] = byte(draw.Intn(14))
				b[2] = byte(draw.Intn(6))
				b[3] = byte(draw.Intn(8))
			}
			p.take(t, b)
		}
		k.goesOn(t, p, round, 4)
	}
}

// TestDrawnCourses (P12, P13, P14): servers on ways that are drawn, among
// frames that are counted and others that nearly are.
func TestDrawnCourses(t *testing.T) {
	draw := rand.New(rand.NewSource(62))
	var ends [3]int
	taken, left := 0, 0
	for range 1500 {
		n := 1 + draw.Intn(5)
		c := api.Config{N: n, T: 1 + draw.Intn(n), M: 1 + draw.Intn(3), D: 1 + draw.Intn(3)}
		p := serverFor(t, c)
		for p.plain.time < 4*c.D && p.plain.outcome.State == api.Pending || draw.Intn(4) > 0 {
			for range draw.Intn(2 * n) {
				f := anyFrame(draw, p.plain, 1+draw.Intn(n+1)%12)
				if p.take(t, plainBytes(changed(draw, f))) {
					taken++
				} else {
					left++
				}
			}
			p.tick(t)
		}
		ends[p.plain.outcome.State]++
	}
	if ends[api.Done] < 100 || ends[api.Stopped] < 100 || ends[api.Pending] > 0 || taken < 1000 || left < 1000 {
		t.Errorf("the servers ended %v, with %d counted and %d not", ends, taken, left)
	}
}

// TestBytesToServersAreNotWrittenInto (P2): neither bytes that are handed in
// nor their spare room, be they counted or not; nor are they kept.
func TestBytesToServersAreNotWrittenInto(t *testing.T) {
	k := countCourse()
	p := k.at(t, 0)
	take := func(f api.Frame) {
		t.Helper()
		room := append(plainBytes(f), 9, 8, 7)
		before := bytes.Clone(room)
		p.take(t, room[:len(room)-3])
		if !bytes.Equal(room, before) {
			t.Errorf("P2: Take(%v) left %v behind", before, room)
		}
		scrawlBytes(room)
	}
	for round := range 4 {
		for _, u := range k.stay[round] {
			take(sentBy(k.frames[round][u], 12))
			take(k.frames[round][u])
			take(k.frames[round][u])
		}
		p.ends(t)
	}
	p.stands(t, k.wanted())
	for i := range k.frames {
		take(k.frames[i][1])
	}
	p.stands(t, k.wanted())
}

// scrawlParcels writes into parcels, into their bytes, and into the spare room
// of all.
func scrawlParcels(l []api.Parcel) {
	for _, x := range l {
		scrawlBytes(x.Bytes)
	}
	l = l[:cap(l)]
	for i := range l {
		l[i] = api.Parcel{From: 77, To: -77}
	}
}

func copiedParcels(l []api.Parcel) []api.Parcel {
	m := slices.Clone(l)
	for i := range m {
		m[i].Bytes = bytes.Clone(l[i].Bytes)
	}
	return m
}

// TestParcelsAreFresh (P2): a caller that writes into a parcel changes no other
// one of the same tick, none of an earlier one, and nothing that comes later.
func TestParcelsAreFresh(t *testing.T) {
	k := countCourse()
	p := k.at(t, 0)
	var kept, want []api.Parcel
	for round := range 4 {
		k.sends(t, p, round)
		p.tick(t)
		wanted := p.plain.tick()
		l := p.real.Tick()
		if !sameParcels(l, wanted) {
			t.Errorf("P13: Tick() = %v, want %v", l, wanted)
		}
		for i := range l {
			before := copiedParcels(l)
			scrawlBytes(l[i].Bytes)
			before[i].Bytes = l[i].Bytes
			if !sameParcels(l, before) {
				t.Errorf("P2: writing into parcel %d made them %v, want %v", i, l, before)
			}
		}
		if !sameParcels(kept, want) {
			t.Errorf("P2: writing into later parcels made earlier ones %v, want %v", kept, want)
		}
		scrawlParcels(l)
		other := k.at(t, round)
		k.sends(t, other, round)
		other.tick(t)
		kept = other.real.Tick()
		want = copiedParcels(kept)
	}
	p.check(t)
	p.stands(t, k.wanted())
}

// TestOutcomesAreFresh (P2): a caller that writes into an outcome changes no
// other one, be it an earlier or a later one; nor do later calls.
func TestOutcomesAreFresh(t *testing.T) {
	k := countCourse()
	p := k.at(t, 4)
	kept := p.real.Outcome()
	other := p.real.Outcome()
	scrawl(other.Set)
	if !same(other.Sum, k.wanted().Sum) {
		t.Errorf("P2: writing into Set made Sum %v", other.Sum)
	}
	scrawl(other.Sum)
	if !sameOutcome(kept, k.wanted()) {
		t.Errorf("P2: writing into an outcome made another one %v", kept)
	}
	p.stands(t, k.wanted())
	p.tick(t)
	p.leaves(t, plainBytes(k.frames[0][1]))
	scrawl(p.real.Outcome().Set)
	if !sameOutcome(kept, k.wanted()) {
		t.Errorf("P2: the outcome became %v", kept)
	}
	p.stands(t, k.wanted())
}

// TestServersAlone (P2): what is done to one server is nothing to another.
func TestServersAlone(t *testing.T) {
	k := countCourse()
	c := k.group.config
	other := courseOf(rand.New(rand.NewSource(63)), c, [4][]int{{1, 2, 4, 6}, {2, 4, 6}, {2, 4, 6}, {2, 4}})
	first, second, third, idle := k.at(t, 0), other.at(t, 0), k.at(t, 0), k.at(t, 0)
	third.ends(t)
	for round := range 4 {
		k.sends(t, first, round)
		first.tick(t)
		other.sends(t, second, round)
		idle.check(t)
		second.tick(t)
		second.tick(t)
		first.tick(t)
		third.tick(t)
	}
	first.stands(t, k.wanted())
	second.stands(t, other.wanted())
	third.stands(t, api.Outcome{State: api.Stopped})
	idle.stands(t, api.Outcome{})
	k.goesOn(t, idle, 0, 4)
	idle.stands(t, k.wanted())
	first.stands(t, k.wanted())
}

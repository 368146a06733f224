package veil_test

import (
	"bytes"
	"math/rand"
	"slices"
	"testing"

	"veil/api"
	"veil/veil"
)

// TestAnyClients (P1): NewClient ends at all numbers and lists, and gives
// either a client or an error.
func TestAnyClients(t *testing.T) {
	r := rand.New(rand.NewSource(30))
	number := func() int { return anyNumbers[r.Intn(len(anyNumbers))] }
	list := func() []int {
		l := make([]int, r.Intn(4))
		for i := range l {
			l[i] = number()
		}
		return l
	}
	for i := 0; i < 50000; i++ {
		c := api.Config{N: number(), T: number(), M: number(), D: number()}
		if r.Intn(2) == 0 {
			c = api.Config{N: 3, T: 2, M: 2, D: 1}
		}
		d := api.Draw{Input: list(), Channel: number(), Mask: number(), Seed: number(), SplitMask: list(), SplitSeed: list()}
		if r.Intn(2) == 0 {
			d = api.Draw{Input: []int{1, 2}, Channel: number(), Mask: 4, Seed: 5, SplitMask: []int{number()}, SplitSeed: []int{7}}
		}
		x, e := veil.NewClient(c, number(), d)
		if (x == nil) == (e == api.OK) || e != api.OK && e != api.ErrConfig && e != api.ErrArg && e != api.ErrDraw {
			t.Errorf("P1: NewClient(%v, .., %v) = %v, %d", c, d, x, e)
		}
	}
}

// TestAnyBytesTaken (P1, P9): Take ends at all bytes, at each phase, and does
// what the document says.
func TestAnyBytesTaken(t *testing.T) {
	draw := rand.New(rand.NewSource(31))
	r := roundOf(3)
	for i := 0; i < 4000; i++ {
		p := r.at(t, 1+i%4)
		b := make([]byte, draw.Intn(90))
		draw.Read(b)
		if len(b) > 4 && draw.Intn(4) > 0 {
			b[0] = byte(draw.Intn(8))
			b[1] = 0
			b[2] = byte(draw.Intn(4))
			b[3] = byte(draw.Intn(8))
		}
		p.take(t, b)
	}
}

// changed gives a frame of which something may be changed.
func changed(draw *rand.Rand, f api.Frame) api.Frame {
	g := api.Frame{Kind: f.Kind, From: f.From, Items: slices.Clone(f.Items)}
	if len(g.Items) == 0 {
		return g
	}
	i := draw.Intn(len(g.Items))
	switch draw.Intn(12) {
	case 0:
		g.Items = slices.Delete(g.Items, i, i+1)
	case 1:
		g.Items[i].Id += 1 - draw.Intn(3)
	case 2:
		g.Items[i].A = plainPlus(g.Items[i].A, 1)
	case 3:
		g.Items[i].B = plainPlus(g.Items[i].B, 1)
	case 4:
		g.Items[i].C = plainPlus(g.Items[i].C, 1)
	case 5:
		j := draw.Intn(len(g.Items))
		g.Items[i].A, g.Items[j].A = g.Items[j].A, g.Items[i].A
	}
	return g
}

// TestDrawnWays (P9, P10, P11): clients on ways that are drawn, among frames
// that agree and frames that do not, frames that are waited for and others.
func TestDrawnWays(t *testing.T) {
	draw := rand.New(rand.NewSource(32))
	var ends [5]int
	for i := 0; i < 1500; i++ {
		n := 1 + draw.Intn(5)
		c := api.Config{N: n, T: 1 + draw.Intn(n), M: 1 + draw.Intn(3), D: 1}
		g := groupOf(draw, c)
		id := 1 + draw.Intn(n)
		p := g.pairOf(t, id)
		any := func() []int { return someOf(draw, upTo(n), 0, 1+draw.Intn(n)) }
		for range 8 {
			frames := []api.Frame{g.keys(any()...), g.box(id, any()...), askOf(any()...)}
			f := frames[draw.Intn(3)]
			if k := p.plain.phase; k > 0 && k < 4 && draw.Intn(3) > 0 {
				f = frames[k-1]
			}
			p.take(t, plainBytes(changed(draw, f)))
		}
		ends[p.plain.phase]++
	}
	if ends[0] < 100 || ends[4] < 100 {
		t.Errorf("the clients ended at the phases 0 to 4: %v", ends)
	}
}

// spare gives a list with room behind it, in which something stands.
func spare(l []int) ([]int, []int) {
	room := append(slices.Clone(l), 5, -5, api.Prime)
	return room[:len(l)], room
}

// roomOf gives a draw whose lists have room behind them, and these lists with
// their room.
func roomOf(d api.Draw) (api.Draw, [][]int) {
	input, inputRoom := spare(d.Input)
	splitMask, maskRoom := spare(d.SplitMask)
	splitSeed, seedRoom := spare(d.SplitSeed)
	d.Input, d.SplitMask, d.SplitSeed = input, splitMask, splitSeed
	return d, [][]int{inputRoom, maskRoom, seedRoom}
}

// checkRooms: the lists of a draw and their spare room are as roomOf made them.
func checkRooms(t *testing.T, rooms [][]int, d api.Draw) {
	t.Helper()
	_, want := roomOf(d)
	for i, room := range rooms {
		if !same(room, want[i]) {
			t.Errorf("P2: %v was left behind, want %v", room, want[i])
		}
	}
}

// TestDrawsAreNotWrittenInto (P2): neither the lists of a draw nor their spare
// room, from the beginning to the end.
func TestDrawsAreNotWrittenInto(t *testing.T) {
	for _, id := range []int{1, 3, 5} {
		r := roundOf(id)
		given := r.group.clients[id-1].draw
		d, rooms := roomOf(given)
		p := pairFor(t, r.group.config, id, d)
		for i, f := range r.frames() {
			p.goesTo(t, i+2, f)
		}
		checkRooms(t, rooms, given)
	}
}

// TestDrawsAreNotKept (P2): whenever the lists of a draw are written into, the
// answers stay those of the draw that was handed in.
func TestDrawsAreNotKept(t *testing.T) {
	for when := 1; when <= 4; when++ {
		r := roundOf(3)
		d, _ := roomOf(r.group.clients[2].draw)
		p := pairFor(t, r.group.config, 3, d)
		for i, f := range r.frames() {
			if i+1 == when {
				scrawl(d.Input)
				scrawl(d.SplitMask)
				scrawl(d.SplitSeed)
			}
			p.goesTo(t, i+2, f)
		}
	}
}

// TestBytesTakenAreNotWrittenInto (P2): neither bytes that are handed in nor
// their spare room, be they answered, refused, or not waited for; nor are they
// kept.
func TestBytesTakenAreNotWrittenInto(t *testing.T) {
	r := roundOf(5)
	list := r.frames()
	list = append(list, r.group.keys(5), frameOf(api.Box, 0, 1, 2, 3, 4), askOf(5, 6), frameOf(api.Ask, 0), frameOf(api.Tell, 1, 1, 1, 1, 0))
	for phase := 1; phase <= 4; phase++ {
		for _, f := range list {
			p := r.at(t, phase)
			room := append(plainBytes(f), 9, 8, 7)
			before := bytes.Clone(room)
			p.take(t, room[:len(room)-3])
			if !bytes.Equal(room, before) {
				t.Errorf("P2: Take(%v) left %v behind", before, room)
			}
			scrawlBytes(room)
			p.check(t)
			for _, g := range r.frames() {
				p.take(t, plainBytes(g))
			}
		}
	}
}

// TestWhatAClientGivesIsFresh (P2): a caller that writes into Hellos, answers
// and what was released changes no other of them, and none that comes later.
func TestWhatAClientGivesIsFresh(t *testing.T) {
	for _, id := range []int{1, 3, 5} {
		r := roundOf(id)
		p := r.at(t, 1)
		keptHello := p.real.Hello()
		scrawlBytes(p.real.Hello())
		for _, f := range r.frames() {
			want := p.plain.take(plainBytes(f))
			answer := p.real.Take(plainBytes(f))
			kept := p.real.Released()
			if !bytes.Equal(answer, want) || !bytes.Equal(keptHello, p.plain.hello()) {
				t.Errorf("P2: the answer is %v, want %v; the first Hello %v", answer, want, keptHello)
			}
			scrawlBytes(p.real.Hello())
			scrawlItems(p.real.Released())
			if !bytes.Equal(answer, want) || !slices.Equal(kept, p.plain.released) {
				t.Errorf("P2: writing into what came out made it %v and %v", answer, kept)
			}
			scrawlBytes(answer)
			p.check(t)
			if !slices.Equal(kept, p.plain.released) || !bytes.Equal(keptHello, p.plain.hello()) {
				t.Errorf("P2: writing into an answer made what came out %v and %v", kept, keptHello)
			}
		}
		for _, f := range r.frames() {
			p.stays(t, plainBytes(f))
		}
	}
}

// TestClientsAlone (P2): what is done to one client is nothing to another, be
// it with the same number and draw or with others.
func TestClientsAlone(t *testing.T) {
	r := roundOf(3)
	other := roundOf(1)
	first, second, halted, third := r.at(t, 1), r.at(t, 1), r.at(t, 1), other.at(t, 1)
	halted.take(t, plainBytes(r.group.keys(3)))
	first.goesTo(t, 2, r.keys)
	second.check(t)
	third.goesTo(t, 2, r.keys)
	second.goesTo(t, 2, r.group.keys(1, 3))
	first.goesTo(t, 3, r.box)
	second.goesTo(t, 3, r.group.box(3, 1))
	third.check(t)
	first.goesTo(t, 4, r.ask)
	halted.check(t)
	third.goesTo(t, 3, other.box)
	second.goesTo(t, 4, r.ask)
	first.check(t)
	third.goesTo(t, 4, other.ask)
	veil.NewClient(r.group.config, 3, rightDraw())
	for _, p := range []pair{first, second, halted, third, r.at(t, 1)} {
		p.check(t)
	}
}

package veil_test

import (
	"bytes"
	"math/rand"
	"testing"

	"veil/api"
	"veil/veil"
)

// TestAnyFrames (P1): Encode ends at all numbers, and answers nil beside an
// error.
func TestAnyFrames(t *testing.T) {
	draw := rand.New(rand.NewSource(3))
	number := func() int { return anyNumbers[draw.Intn(len(anyNumbers))] }
	for i := 0; i < 50000; i++ {
		f := api.Frame{Kind: number(), From: number()}
		if draw.Intn(4) > 0 {
			f.Kind = draw.Intn(9)
		}
		for n := draw.Intn(15); n > 0; n-- {
			f.Items = append(f.Items, api.Item{Id: number(), A: number(), B: number(), C: number()})
		}
		checkFrame(t, f)
	}
}

// TestAnyBytes (P1): Decode ends at all bytes, and answers the frame of
// noughts beside an error.
func TestAnyBytes(t *testing.T) {
	draw := rand.New(rand.NewSource(4))
	for i := 0; i < 50000; i++ {
		b := make([]byte, draw.Intn(70))
		draw.Read(b)
		if len(b) > 2 {
			b[0] = byte(draw.Intn(9))
			b[1] = byte(draw.Intn(14))
			b[2] = byte(draw.Intn(14))
		}
		checkBytes(t, b)
	}
}

// spareItems gives the items with room behind them, in which something stands.
func spareItems(items []api.Item) ([]api.Item, []api.Item) {
	room := append([]api.Item(nil), items...)
	room = append(room, api.Item{Id: 3, A: 4, B: 5, C: 6}, api.Item{Id: -1, A: -2, B: -3, C: -4})
	return room[:len(items)], room
}

// TestFramesAreNotWrittenInto (P2): neither the items or bytes that are handed
// in nor their spare room, be they right or wrong.
func TestFramesAreNotWrittenInto(t *testing.T) {
	frames := someFrames()
	frames = append(frames, frameOf(api.Ask, 0), frameOf(api.Ask, 0, 3, 0, 0, 0, 1, 0, 0, 0), frameOf(api.Tell, 1, 1, 3, 0, 0))
	for _, f := range frames {
		items, room := spareItems(f.Items)
		_, kept := spareItems(f.Items)
		veil.Encode(api.Frame{Kind: f.Kind, From: f.From, Items: items})
		if !sameFrame(api.Frame{Items: room}, api.Frame{Items: kept}) {
			t.Errorf("P2: Encode(%v) left %v behind", f, room)
		}
		b := append(plainBytes(f), 9, 8, 7, 6, 5)
		before := bytes.Clone(b)
		for _, n := range []int{len(b), len(b) - 4, len(b) - 5, len(b) - 6} {
			veil.Decode(b[:n])
			if !bytes.Equal(b, before) {
				t.Errorf("P2: Decode(%v) left %v behind", before[:n], b)
			}
		}
	}
}

// scrawlBytes and scrawlItems write into a list and into its spare room.
func scrawlBytes(b []byte) {
	b = b[:cap(b)]
	for i := range b {
		b[i] = 177
	}
}

func scrawlItems(l []api.Item) {
	l = l[:cap(l)]
	for i := range l {
		l[i] = api.Item{Id: -7, A: -7, B: -7, C: -7}
	}
}

// TestFramesThatComeOutAreFresh (P2): a caller that writes into an answer
// changes no other one, and none that comes later.
func TestFramesThatComeOutAreFresh(t *testing.T) {
	for _, f := range someFrames() {
		want := plainBytes(f)
		kept, _ := veil.Encode(f)
		other, _ := veil.Encode(f)
		scrawlBytes(other)
		if !bytes.Equal(kept, want) {
			t.Errorf("P2: writing into bytes changed %v to %v", want, kept)
		}
		keptFrame, _ := veil.Decode(want)
		otherFrame, _ := veil.Decode(want)
		scrawlItems(otherFrame.Items)
		if !sameFrame(keptFrame, f) || !bytes.Equal(want, plainBytes(f)) {
			t.Errorf("P2: writing into a frame changed %v to %v, or its bytes to %v", f, keptFrame, want)
		}
		checkIs(t, f, want)
	}
}

// TestFramesAreNotKept (P2): what is written later into a frame or into bytes
// that were handed in changes no answer.
func TestFramesAreNotKept(t *testing.T) {
	for _, f := range someFrames() {
		items, _ := spareItems(f.Items)
		b, _ := veil.Encode(api.Frame{Kind: f.Kind, From: f.From, Items: items})
		scrawlItems(items)
		if !bytes.Equal(b, plainBytes(f)) {
			t.Errorf("P2: writing into the items of %v made its bytes %v", f, b)
		}
		in := plainBytes(f)
		g, _ := veil.Decode(in)
		scrawlBytes(in)
		if !sameFrame(g, f) {
			t.Errorf("P2: writing into the bytes of %v made it %v", f, g)
		}
	}
}

// TestOnlyTheFrameCounts (P2): calls in between, refused ones too, change no
// answer.
func TestOnlyTheFrameCounts(t *testing.T) {
	for i := 0; i < 3; i++ {
		checkIs(t, frameOf(api.Shares, 1), []byte{3, 1, 0})
		checkNoBytes(t, []byte{3, 1, 1})
		checkIs(t, frameOf(api.Ask, 0, 1, 0, 0, 0, 3, 0, 0, 0), []byte{6, 0, 2, 1, 3})
		checkNoBytes(t, []byte{6, 0, 2, 3, 1})
		checkIs(t, frameOf(api.Box, 0), []byte{4, 0, 0})
		checkNoFrame(t, frameOf(api.Ask, 0, 1, 0, 0, 1))
		checkNoFrame(t, api.Frame{})
	}
}

package veil_test

import (
	"bytes"
	"encoding/binary"
	"math/rand"
	"testing"

	"veil/api"
	"veil/veil"
)

// span is where a number may lie; what is not named lies from 0 to 0.
type span struct{ low, high int }

// row is a row of the document's table.
type row struct {
	kind   int
	client bool // From is a client, else 0
	fewest int
	most   int
	named  int
	spans  [3]span
}

var rows = []row{
	{api.Hello, true, 1, 1, 2, [3]span{{1, last}, {1, last}, {}}},
	{api.Keys, false, 1, 12, 2, [3]span{{1, last}, {1, last}, {}}},
	{api.Shares, true, 0, 12, 3, [3]span{{0, last}, {0, last}, {0, last}}},
	{api.Box, false, 0, 12, 3, [3]span{{0, last}, {0, last}, {0, last}}},
	{api.Masked, true, 1, 12, 1, [3]span{{0, api.Word - 1}, {}, {}}},
	{api.Ask, false, 1, 12, 0, [3]span{}},
	{api.Tell, true, 1, 12, 2, [3]span{{1, 2}, {0, last}, {}}},
}

func rowOf(kind int) (row, bool) {
	for _, r := range rows {
		if r.kind == kind {
			return r, true
		}
	}
	return row{}, false
}

// plainFrame tells whether f is a frame, as the document words it.
func plainFrame(f api.Frame) bool {
	r, ok := rowOf(f.Kind)
	if !ok || len(f.Items) < r.fewest || len(f.Items) > r.most || f.From < 0 || f.From > 12 || r.client != (f.From > 0) {
		return false
	}
	for i, x := range f.Items {
		if x.Id < 1 || x.Id > 12 || i > 0 && x.Id <= f.Items[i-1].Id {
			return false
		}
		if f.Kind == api.Hello && x.Id != f.From || f.Kind == api.Shares && x.Id == f.From || f.Kind == api.Masked && x.Id != i+1 {
			return false
		}
		for j, v := range []int{x.A, x.B, x.C} {
			if v < r.spans[j].low || v > r.spans[j].high {
				return false
			}
		}
	}
	return true
}

// plainBytes are the bytes of f, be it a frame or only shaped like one.
func plainBytes(f api.Frame) []byte {
	r, _ := rowOf(f.Kind)
	b := []byte{byte(f.Kind), byte(f.From), byte(len(f.Items))}
	for _, x := range f.Items {
		b = append(b, byte(x.Id))
		for _, v := range []int{x.A, x.B, x.C}[:r.named] {
			b = binary.LittleEndian.AppendUint64(b, uint64(v))
		}
	}
	return b
}

func sameFrame(f, g api.Frame) bool {
	if f.Kind != g.Kind || f.From != g.From || len(f.Items) != len(g.Items) {
		return false
	}
	for i := range f.Items {
		if f.Items[i] != g.Items[i] {
			return false
		}
	}
	return true
}

func isNought(f api.Frame) bool { return f.Kind == 0 && f.From == 0 && f.Items == nil }

// frameOf makes a frame out of its items' numbers, four by four.
func frameOf(kind, from int, numbers ...int) api.Frame {
	f := api.Frame{Kind: kind, From: from}
	for ; len(numbers) >= 4; numbers = numbers[4:] {
		f.Items = append(f.Items, api.Item{Id: numbers[0], A: numbers[1], B: numbers[2], C: numbers[3]})
	}
	return f
}

// checkIs: b are the bytes of f.
func checkIs(t *testing.T, f api.Frame, b []byte) {
	t.Helper()
	if c, e := veil.Encode(f); !bytes.Equal(c, b) || e != api.OK {
		t.Errorf("P7: Encode(%v) = %v, %d, want %v", f, c, e, b)
	}
	if g, e := veil.Decode(b); !sameFrame(g, f) || e != api.OK {
		t.Errorf("P7: Decode(%v) = %v, %d, want %v", b, g, e, f)
	}
}

func checkNoFrame(t *testing.T, f api.Frame) {
	t.Helper()
	if b, e := veil.Encode(f); b != nil || e != api.ErrFrame {
		t.Errorf("P7: Encode(%v) = %v, %d, want ErrFrame", f, b, e)
	}
}

func checkNoBytes(t *testing.T, b []byte) {
	t.Helper()
	if f, e := veil.Decode(b); !isNought(f) || e != api.ErrFrame {
		t.Errorf("P7: Decode(%v) = %v, %d, want ErrFrame", b, f, e)
	}
}

// checkFrame compares with the document's table, both ways.
func checkFrame(t *testing.T, f api.Frame) {
	t.Helper()
	if plainFrame(f) {
		checkIs(t, f, plainBytes(f))
	} else {
		checkNoFrame(t, f)
	}
}

// checkBytes: b is read just if a frame has these bytes.
func checkBytes(t *testing.T, b []byte) {
	t.Helper()
	if f, ok := plainRead(b); ok {
		checkIs(t, f, b)
	} else {
		checkNoBytes(t, b)
	}
}

// plainRead reads as the document words it.
func plainRead(b []byte) (api.Frame, bool) {
	if len(b) < 3 {
		return api.Frame{}, false
	}
	r, _ := rowOf(int(b[0]))
	f := api.Frame{Kind: int(b[0]), From: int(b[1])}
	rest := b[3:]
	for ; len(rest) >= 1+8*r.named; rest = rest[1+8*r.named:] {
		var numbers [3]int
		for j := 0; j < r.named; j++ {
			numbers[j] = int(binary.LittleEndian.Uint64(rest[1+8*j:]))
		}
		f.Items = append(f.Items, api.Item{Id: int(rest[0]), A: numbers[0], B: numbers[1], C: numbers[2]})
	}
	return f, len(rest) == 0 && len(f.Items) == int(b[2]) && plainFrame(f)
}

func TestFramesOfTheDocument(t *testing.T) {
	checkIs(t, frameOf(api.Ask, 0, 1, 0, 0, 0, 3, 0, 0, 0), []byte{6, 0, 2, 1, 3})
	checkIs(t, frameOf(api.Masked, 2, 1, 5, 0, 0, 2, 258, 0, 0), []byte{5, 2, 2, 1, 5, 0, 0, 0, 0, 0, 0, 0, 2, 2, 1, 0, 0, 0, 0, 0, 0})
	checkIs(t, frameOf(api.Hello, 1, 1, 1, 1, 0), []byte{1, 1, 1, 1, 1, 0, 0, 0, 0, 0, 0, 0, 1, 0, 0, 0, 0, 0, 0, 0})
	checkIs(t, frameOf(api.Keys, 0, 1, 1, 1, 0), []byte{2, 0, 1, 1, 1, 0, 0, 0, 0, 0, 0, 0, 1, 0, 0, 0, 0, 0, 0, 0})
	checkIs(t, frameOf(api.Shares, 1), []byte{3, 1, 0})
	checkIs(t, frameOf(api.Box, 0), []byte{4, 0, 0})
	checkIs(t, frameOf(api.Masked, 1, 1, 3145736, 0, 0), []byte{5, 1, 1, 1, 8, 0, 48, 0, 0, 0, 0, 0})
	checkIs(t, frameOf(api.Tell, 1, 1, 1, 0, 0), []byte{7, 1, 1, 1, 1, 0, 0, 0, 0, 0, 0, 0, 0, 0, 0, 0, 0, 0, 0, 0})
	checkNoBytes(t, []byte{6, 0, 2, 3, 1})
	checkNoBytes(t, []byte{6, 0, 0})
	checkNoBytes(t, []byte{6, 1, 1, 1})
	checkNoBytes(t, []byte{6, 0, 1, 1, 0})
}

// TestOrderOfTheBytes: each byte of a number has its place, and so has each
// number of an item and each item of a frame.
func TestOrderOfTheBytes(t *testing.T) {
	const a, b, c = 0x1807060504030201, 0x1716151413121110, 0x0123456789abcdef
	checkIs(t, frameOf(api.Box, 0, 2, a, b, c, 11, c, a, b), []byte{
		4, 0, 2,
		2, 0x01, 0x02, 0x03, 0x04, 0x05, 0x06, 0x07, 0x18, 0x10, 0x11, 0x12, 0x13, 0x14, 0x15, 0x16, 0x17, 0xef, 0xcd, 0xab, 0x89, 0x67, 0x45, 0x23, 0x01,
		11, 0xef, 0xcd, 0xab, 0x89, 0x67, 0x45, 0x23, 0x01, 0x01, 0x02, 0x03, 0x04, 0x05, 0x06, 0x07, 0x18, 0x10, 0x11, 0x12, 0x13, 0x14, 0x15, 0x16, 0x17,
	})
	checkIs(t, frameOf(api.Tell, 9, 4, 2, a, 0), []byte{7, 9, 1, 4, 2, 0, 0, 0, 0, 0, 0, 0, 0x01, 0x02, 0x03, 0x04, 0x05, 0x06, 0x07, 0x18})
	checkIs(t, frameOf(api.Masked, 12, 1, 0x89abcdef, 0, 0), []byte{5, 12, 1, 1, 0xef, 0xcd, 0xab, 0x89, 0, 0, 0, 0})
}

// someFrames gives frames of every kind, with few and with many items, the
// same each time.
func someFrames() []api.Frame {
	draw := rand.New(rand.NewSource(7))
	var list []api.Frame
	for _, r := range rows {
		for _, from := range []int{0, 1, 2, 7, 12} {
			if r.client != (from > 0) {
				continue
			}
			for n := r.fewest; n <= r.most; n++ {
				if f := frameOfRow(draw, r, from, n); plainFrame(f) {
					list = append(list, f)
				}
			}
		}
	}
	return list
}

// frameOfRow draws a frame of n items; it is none if there are not n Ids.
func frameOfRow(draw *rand.Rand, r row, from, n int) api.Frame {
	f := api.Frame{Kind: r.kind, From: from}
	left := 12
	for id := 1; id <= 12; id++ {
		takes := draw.Intn(left) < n-len(f.Items)
		left--
		if r.kind == api.Hello {
			takes = id == from
		} else if r.kind == api.Masked {
			takes = id <= n
		} else if r.kind == api.Shares && id == from {
			takes = false
		}
		if takes {
			f.Items = append(f.Items, api.Item{Id: id, A: within(draw, r.spans[0]), B: within(draw, r.spans[1]), C: within(draw, r.spans[2])})
		}
	}
	return f
}

// within draws a number of a span, its ends often.
func within(draw *rand.Rand, s span) int {
	switch draw.Intn(4) {
	case 0:
		return s.low
	case 1:
		return s.high
	}
	return s.low + draw.Intn(s.high-s.low+1)
}

// TestEachKind: frames of each kind are written, and read again.
func TestEachKind(t *testing.T) {
	var seen [8]int
	for _, f := range someFrames() {
		seen[f.Kind]++
		checkIs(t, f, plainBytes(f))
	}
	for _, r := range rows {
		if seen[r.kind] < 4 {
			t.Errorf("only %d frames of the kind %d", seen[r.kind], r.kind)
		}
	}
}

// TestKindAndFrom: every kind with every From, in range and out of it.
func TestKindAndFrom(t *testing.T) {
	numbers := []int{least, -256, -1, 13, 14, 255, 256, 257, 262, 263, 512, 1 << 32, 1<<32 + 1, most}
	for i := 0; i <= 12; i++ {
		numbers = append(numbers, i)
	}
	for _, f := range someFrames() {
		for _, n := range numbers {
			checkFrame(t, api.Frame{Kind: n, From: f.From, Items: f.Items})
			checkFrame(t, api.Frame{Kind: f.Kind, From: n, Items: f.Items})
		}
	}
}

// TestNumbersOfItems: at each place of an item what lies around the edges of
// the spans, and what looks right when its high bytes are cut off.
func TestNumbersOfItems(t *testing.T) {
	numbers := []int{
		least, least + 1, -api.Prime, -1 << 32, -256, -2, -1, 0, 1, 2, 3, 4, 11, 12, 13, 14, 255, 256, 257, 258,
		api.Word - 1, api.Word, api.Word + 1, last - 1, last, api.Prime, api.Prime + 1, 1<<61 + 1, 1 << 62, 1<<62 + 1, most,
	}
	for _, f := range someFrames() {
		for i := range f.Items {
			kept := f.Items[i]
			for _, n := range numbers {
				f.Items[i] = api.Item{Id: n, A: kept.A, B: kept.B, C: kept.C}
				checkFrame(t, f)
				f.Items[i] = api.Item{Id: kept.Id, A: n, B: kept.B, C: kept.C}
				checkFrame(t, f)
				f.Items[i] = api.Item{Id: kept.Id, A: kept.A, B: n, C: kept.C}
				checkFrame(t, f)
				f.Items[i] = api.Item{Id: kept.Id, A: kept.A, B: kept.B, C: n}
				checkFrame(t, f)
			}
			f.Items[i] = kept
		}
	}
}

// TestIds: lists of up to three Ids, rising or not.
func TestIds(t *testing.T) {
	ids := []int{-1, 0, 1, 2, 3, 4, 11, 12, 13}
	for _, r := range rows {
		from := 0
		if r.client {
			from = 2
		}
		right := api.Item{A: r.spans[0].high, B: r.spans[1].high, C: r.spans[2].high}
		first, second, third := right, right, right
		for _, first.Id = range ids {
			checkFrame(t, api.Frame{Kind: r.kind, From: from, Items: []api.Item{first}})
			for _, second.Id = range ids {
				checkFrame(t, api.Frame{Kind: r.kind, From: from, Items: []api.Item{first, second}})
				for _, third.Id = range ids {
					checkFrame(t, api.Frame{Kind: r.kind, From: from, Items: []api.Item{first, second, third}})
				}
			}
		}
	}
}

// TestHowManyItems: none, twelve, more, and so many that a byte does not hold
// their number.
func TestHowManyItems(t *testing.T) {
	for _, r := range rows {
		from := 0
		if r.client {
			from = 12
		}
		for _, n := range []int{0, 1, 2, 11, 12, 13, 14, 255, 256, 257, 268, 1 << 20} {
			f := api.Frame{Kind: r.kind, From: from, Items: []api.Item{}}
			for id := 1; id <= n; id++ {
				f.Items = append(f.Items, api.Item{Id: id, A: r.spans[0].low, B: r.spans[1].low, C: r.spans[2].low})
			}
			checkFrame(t, f)
			if n < 256 {
				checkBytes(t, plainBytes(f))
			}
		}
		checkFrame(t, api.Frame{Kind: r.kind, From: from})
	}
}

// TestBytesTooShortOrLong: the bytes of a frame are none of a frame's when
// they are cut at any place, or go on, even if what was cut off stands behind
// them.
func TestBytesTooShortOrLong(t *testing.T) {
	for _, f := range someFrames() {
		b := plainBytes(f)
		for i := range b {
			checkNoBytes(t, b[:i])
		}
		for _, more := range [][]byte{{0}, {1}, {12}, {255}, {0, 0, 0, 0, 0, 0, 0, 0}, b} {
			checkNoBytes(t, append(append([]byte(nil), b...), more...))
		}
		checkNoBytes(t, append([]byte{0}, b...))
	}
	checkNoBytes(t, nil)
	checkNoBytes(t, []byte{})
	checkNoBytes(t, make([]byte, 1<<20))
}

// TestWrongHeads: every kind, From and number of items that three bytes can
// say, before the bytes of a frame's items.
func TestWrongHeads(t *testing.T) {
	for _, f := range someFrames() {
		b := plainBytes(f)
		for place := 0; place < 3; place++ {
			kept := b[place]
			for v := 0; v < 256; v++ {
				b[place] = byte(v)
				checkBytes(t, b)
			}
			b[place] = kept
		}
	}
	for kind := 0; kind < 256; kind++ {
		for from := 0; from < 256; from++ {
			checkBytes(t, []byte{byte(kind), byte(from), 0})
			checkBytes(t, []byte{byte(kind), byte(from), 1, 1})
		}
	}
}

// TestChangedBytes: any byte of a frame's bytes is changed.
func TestChangedBytes(t *testing.T) {
	for _, f := range someFrames() {
		b := plainBytes(f)
		for place := range b {
			kept := b[place]
			for _, v := range []byte{0, 1, 2, 3, 12, 13, 31, 32, 127, 128, 255, kept + 1, kept - 1, kept ^ 128} {
				b[place] = v
				checkBytes(t, b)
			}
			b[place] = kept
		}
	}
}

// TestNumbersInBytes: a number as bytes, at the edges of its span and of an
// int.
func TestNumbersInBytes(t *testing.T) {
	numbers := []uint64{0, 1, 2, 3, 255, 256, api.Word - 1, api.Word, last, api.Prime, 1 << 61, 1<<61 + 1, 1<<62 + 1, 1<<63 - 1, 1 << 63, 1<<63 + 1, 1<<63 + 2, 1<<64 - 1, 1<<64 - api.Prime}
	for _, f := range someFrames() {
		r, _ := rowOf(f.Kind)
		for i := range f.Items {
			for j := 0; j < r.named; j++ {
				b := plainBytes(f)
				for _, v := range numbers {
					binary.LittleEndian.PutUint64(b[3+i*(1+8*r.named)+1+8*j:], v)
					checkBytes(t, b)
				}
			}
		}
	}
}

// TestDrawnBytes: what is drawn is read just as the table says, and what is
// read is written the same.
func TestDrawnBytes(t *testing.T) {
	draw := rand.New(rand.NewSource(77))
	read := 0
	for i := 0; i < 50000; i++ {
		r := rows[draw.Intn(len(rows))]
		b := []byte{byte(r.kind), byte(draw.Intn(4)), byte(draw.Intn(4))}
		for n := 0; n < int(b[2]); n++ {
			b = append(b, byte(n+1+draw.Intn(8)/7))
			for j := 0; j < r.named; j++ {
				b = append(b, byte(draw.Intn(3)), 0, 0, 0, byte(draw.Intn(8)/7), 0, 0, 0)
			}
		}
		checkBytes(t, b)
		if _, e := veil.Decode(b); e == api.OK {
			read++
		}
	}
	if read < 2000 {
		t.Errorf("only %d of the drawn bytes are read", read)
	}
}

package frame

import "veil/api"

// How many bytes the beginning of a frame has, an item's Id, and a number.
const (
	headSize   = 3
	idSize     = 1
	numberSize = 8
)

// Encode writes a frame as bytes.
func Encode(f api.Frame) ([]byte, api.Errno) {
	if !isFrame(f) {
		return nil, api.ErrFrame
	}
	b := make([]byte, 0, headSize+len(f.Items)*itemSize(f.Kind))
	b = append(b, byte(f.Kind), byte(f.From), byte(len(f.Items)))
	for _, x := range f.Items {
		b = append(b, byte(x.Id))
		for _, v := range namedNumbers(f.Kind, x) {
			for _, digit := range digits(v) {
				b = append(b, digit)
			}
		}
	}
	return b, api.OK
}

// Decode reads a frame.
func Decode(b []byte) (api.Frame, api.Errno) {
	if len(b) < headSize {
		return api.Frame{}, api.ErrFrame
	}
	kind := int(b[0])
	count := int(b[2])
	size := itemSize(kind)
	// All that is read below lies in b if its length is just this one.
	if len(b) != headSize+count*size {
		return api.Frame{}, api.ErrFrame
	}
	var items []api.Item
	for i := 0; i < count; i++ {
		items = append(items, readItem(b, headSize+i*size, kind))
	}
	f := api.Frame{Kind: kind, From: int(b[1]), Items: items}
	if !isFrame(f) {
		return api.Frame{}, api.ErrFrame
	}
	return f, api.OK
}

// named tells how many numbers the bytes of an item have: A, then B, then C.
func named(kind int) int {
	switch kind {
	case api.Masked:
		return 1
	case api.Hello, api.Keys, api.Tell:
		return 2
	case api.Shares, api.Box:
		return 3
	}
	return 0
}

// itemSize tells how many bytes an item has.
func itemSize(kind int) int {
	return idSize + numberSize*named(kind)
}

// namedNumbers gives those numbers of an item that its bytes have.
func namedNumbers(kind int, x api.Item) []int {
	switch named(kind) {
	case 1:
		return []int{x.A}
	case 2:
		return []int{x.A, x.B}
	case 3:
		return []int{x.A, x.B, x.C}
	}
	return nil
}

// readItem reads the item whose bytes begin at the place at of b.
func readItem(b []byte, at, kind int) api.Item {
	count := named(kind)
	x := api.Item{Id: int(b[at])}
	at = at + idSize
	if count >= 1 {
		x.A = number(b, at)
	}
	if count >= 2 {
		x.B = number(b, at+numberSize)
	}
	if count >= 3 {
		x.C = number(b, at+2*numberSize)
	}
	return x
}

// digits gives the bytes of a number that is not below 0, the lowest first.
func digits(v int) [numberSize]byte {
	var list [numberSize]byte
	for i := range list {
		list[i] = byte(v % 256)
		v = v / 256
	}
	return list
}

// number reads the number whose bytes begin at the place at of b.
func number(b []byte, at int) int {
	highest := at + numberSize - 1
	// An int does not hold a number with this bit; no item has -1 either, so
	// that it stays a wrong number.
	if b[highest] >= 128 {
		return -1
	}
	v := 0
	for i := highest; i >= at; i-- {
		v = 256*v + int(b[i])
	}
	return v
}

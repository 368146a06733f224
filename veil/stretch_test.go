package veil_test

import (
	"testing"

	"veil/api"
	"veil/veil"
)

func checkStretch(t *testing.T, seed, n int, want []int, wantErr api.Errno) {
	t.Helper()
	v, e := veil.Stretch(seed, n)
	if !same(v, want) || e != wantErr || (e != api.OK && v != nil) {
		t.Errorf("P5: Stretch(%d, %d) = %v, %d, want %v, %d", seed, n, v, e, want, wantErr)
	}
}

func TestStretchOfTheDocument(t *testing.T) {
	checkStretch(t, 0, 3, []int{3145729, 25165836, 84934696}, api.OK)
	checkStretch(t, 1, 1, []int{12582915}, api.OK)
	checkStretch(t, api.Prime-1099511627777, 1, []int{0}, api.OK)
	checkStretch(t, 5, 13, nil, api.ErrArg)
}

func TestStretchOfSeeds(t *testing.T) {
	for _, seed := range elements(300) {
		var want []int
		checkStretch(t, seed, 0, want, api.OK)
		for i := 1; i <= api.MaxLen; i++ {
			want = append(want, plainPad(seed, i)>>20&(api.Word-1))
			checkStretch(t, seed, i, want, api.OK)
		}
	}
}

func TestStretchOfWrongNumbers(t *testing.T) {
	for _, wrong := range noElements {
		for _, n := range []int{-1, 0, 1, 12, 13} {
			checkStretch(t, wrong, n, nil, api.ErrArg)
		}
	}
	for _, n := range []int{least, -1, 13, 14, 1 << 40, most} {
		checkStretch(t, 0, n, nil, api.ErrArg)
		checkStretch(t, last, n, nil, api.ErrArg)
	}
}

package veil_test

import (
	"testing"

	"veil/api"
	"veil/veil"
)

func checkTimes(t *testing.T, a, b, want int, wantErr api.Errno) {
	t.Helper()
	if v, e := veil.Times(a, b); v != want || e != wantErr {
		t.Errorf("P3: Times(%d, %d) = %d, %d, want %d, %d", a, b, v, e, want, wantErr)
	}
}

func checkPower(t *testing.T, a, k, want int, wantErr api.Errno) {
	t.Helper()
	if v, e := veil.Power(a, k); v != want || e != wantErr {
		t.Errorf("P3: Power(%d, %d) = %d, %d, want %d, %d", a, k, v, e, want, wantErr)
	}
}

func TestTimesOfTheDocument(t *testing.T) {
	checkTimes(t, 1152921504606846976, 2, 1, api.OK)
	checkTimes(t, api.Prime-1, api.Prime-1, 1, api.OK)
	checkTimes(t, api.Prime, 1, 0, api.ErrArg)
}

func TestTimesOfElements(t *testing.T) {
	l := elements(300)
	for _, a := range l {
		for _, b := range l {
			checkTimes(t, a, b, plainTimes(a, b), api.OK)
		}
	}
}

func TestTimesOfNoElements(t *testing.T) {
	for _, wrong := range noElements {
		for _, right := range []int{0, 1, 7, last} {
			checkTimes(t, wrong, right, 0, api.ErrArg)
			checkTimes(t, right, wrong, 0, api.ErrArg)
		}
		checkTimes(t, wrong, wrong, 0, api.ErrArg)
	}
}

func TestPowerOfTheDocument(t *testing.T) {
	checkPower(t, 2, 61, 1, api.OK)
	checkPower(t, 0, 0, 1, api.OK)
	checkPower(t, 3, 5, 243, api.OK)
}

func TestPowerOfElements(t *testing.T) {
	exponents := append([]int{4, 5, 1 << 61, 1 << 62, most - 1, most, api.Prime}, elements(20)...)
	for _, a := range elements(60) {
		for _, k := range exponents {
			checkPower(t, a, k, plainPower(a, k), api.OK)
		}
	}
}

func TestPowerToNought(t *testing.T) {
	for _, a := range elements(20) {
		checkPower(t, a, 0, 1, api.OK)
	}
}

func TestPowerOfWrongNumbers(t *testing.T) {
	for _, wrong := range noElements {
		for _, k := range []int{least, -1, 0, 1, 2, most} {
			checkPower(t, wrong, k, 0, api.ErrArg)
		}
	}
	for _, a := range []int{0, 1, 2, last} {
		for _, k := range []int{-1, -2, -api.Prime, least} {
			checkPower(t, a, k, 0, api.ErrArg)
		}
	}
}

package veil_test

import (
	"math/rand"
	"testing"

	"veil/api"
	"veil/veil"
)

// way is what Seal and Open have in common.
type way struct{ key, from, to int }

// sealed is what Seal gives, and Open takes.
type sealed struct{ x, y, z int }

func checkSeal(t *testing.T, w way, a, b int, want sealed, wantErr api.Errno) {
	t.Helper()
	x, y, z, e := veil.Seal(w.key, w.from, w.to, a, b)
	if (sealed{x, y, z}) != want || e != wantErr {
		t.Errorf("P6: Seal(%v, %d, %d) = %d, %d, %d, %d, want %v, %d", w, a, b, x, y, z, e, want, wantErr)
	}
}

func checkOpen(t *testing.T, w way, s sealed, wantA, wantB int, wantErr api.Errno) {
	t.Helper()
	a, b, e := veil.Open(w.key, w.from, w.to, s.x, s.y, s.z)
	if a != wantA || b != wantB || e != wantErr {
		t.Errorf("P6: Open(%v, %v) = %d, %d, %d, want %d, %d, %d", w, s, a, b, e, wantA, wantB, wantErr)
	}
}

// plainSeal seals as the document words it.
func plainSeal(w way, a, b int) sealed {
	q := 64*w.from + 4*w.to
	p2 := plainPad(w.key, q+2)
	x := plainPlus(a, plainPad(w.key, q))
	y := plainPlus(b, plainPad(w.key, q+1))
	z := plainTimes(p2, x)
	z = plainPlus(z, plainTimes(plainTimes(p2, p2), y))
	z = plainPlus(z, plainPad(w.key, q+3))
	return sealed{x, y, z}
}

func TestSealOfTheDocument(t *testing.T) {
	w := way{2305763844376494007, 1, 2}
	b := 1729378958373814270
	checkSeal(t, w, 0, b, sealed{0, 0, 1729471317394587681}, api.OK)
	checkSeal(t, w, 1, b, sealed{1, 0, 1729497705686237227}, api.OK)
	checkOpen(t, w, sealed{1, 0, 1729497705686237227}, 1, b, api.OK)
	checkOpen(t, w, sealed{1, 0, 1729497705686237228}, 0, 0, api.ErrTag)
}

func TestSealOfElements(t *testing.T) {
	keys := append([]int{2305763844376494007}, elements(10)...)
	r := rand.New(rand.NewSource(6))
	for _, key := range keys {
		for from := 1; from <= api.MaxClients; from++ {
			for to := 1; to <= api.MaxClients; to++ {
				w := way{key, from, to}
				l := someElements(r, 2)
				s := plainSeal(w, l[0], l[1])
				checkSeal(t, w, l[0], l[1], s, api.OK)
				checkOpen(t, w, s, l[0], l[1], api.OK)
			}
		}
	}
}

func TestOpenOfChangedNumbers(t *testing.T) {
	w := way{98765432123456789, 3, 11}
	s := plainSeal(w, 1<<60, last)
	for _, by := range []int{1, 2, 1 << 30, 1 << 31, 1 << 60, last} {
		checkOpen(t, w, sealed{plainPlus(s.x, by), s.y, s.z}, 0, 0, api.ErrTag)
		checkOpen(t, w, sealed{s.x, plainPlus(s.y, by), s.z}, 0, 0, api.ErrTag)
		checkOpen(t, w, sealed{s.x, s.y, plainPlus(s.z, by)}, 0, 0, api.ErrTag)
	}
	for bit := 0; bit < 61; bit++ {
		if z := s.z ^ 1<<bit; z < api.Prime {
			checkOpen(t, w, sealed{s.x, s.y, z}, 0, 0, api.ErrTag)
		}
	}
}

func TestOpenOnAnotherWay(t *testing.T) {
	w := way{98765432123456789, 3, 11}
	s := plainSeal(w, 5, 6)
	checkOpen(t, w, s, 5, 6, api.OK)
	checkOpen(t, way{w.key + 1, 3, 11}, s, 0, 0, api.ErrTag)
	for from := 1; from <= api.MaxClients; from++ {
		for to := 1; to <= api.MaxClients; to++ {
			if from != w.from || to != w.to {
				checkOpen(t, way{w.key, from, to}, s, 0, 0, api.ErrTag)
			}
		}
	}
}

func TestSealOfWrongNumbers(t *testing.T) {
	for _, wrong := range noElements {
		checkSeal(t, way{wrong, 1, 2}, 3, 4, sealed{}, api.ErrArg)
		checkSeal(t, way{1, 1, 2}, wrong, 4, sealed{}, api.ErrArg)
		checkSeal(t, way{1, 1, 2}, 3, wrong, sealed{}, api.ErrArg)
	}
	for _, wrong := range noClients {
		checkSeal(t, way{1, wrong, 2}, 3, 4, sealed{}, api.ErrArg)
		checkSeal(t, way{1, 1, wrong}, 3, 4, sealed{}, api.ErrArg)
	}
}

// TestOpenOfWrongNumbers: ErrArg is named before ErrTag, so a tag that does
// not fit hides no number that may not be.
func TestOpenOfWrongNumbers(t *testing.T) {
	w := way{1, 1, 2}
	s := plainSeal(w, 3, 4)
	checkOpen(t, w, s, 3, 4, api.OK)
	for _, z := range []int{s.z, plainPlus(s.z, 1)} {
		for _, wrong := range noElements {
			checkOpen(t, way{wrong, 1, 2}, sealed{s.x, s.y, z}, 0, 0, api.ErrArg)
			checkOpen(t, w, sealed{wrong, s.y, z}, 0, 0, api.ErrArg)
			checkOpen(t, w, sealed{s.x, wrong, z}, 0, 0, api.ErrArg)
			checkOpen(t, w, sealed{s.x, s.y, wrong}, 0, 0, api.ErrArg)
		}
		for _, wrong := range noClients {
			checkOpen(t, way{1, wrong, 2}, sealed{s.x, s.y, z}, 0, 0, api.ErrArg)
			checkOpen(t, way{1, 1, wrong}, sealed{s.x, s.y, z}, 0, 0, api.ErrArg)
		}
	}
	// Congruent to the right numbers, and yet no elements.
	checkOpen(t, w, sealed{s.x + api.Prime, s.y, s.z}, 0, 0, api.ErrArg)
	checkOpen(t, w, sealed{s.x, s.y + api.Prime, s.z}, 0, 0, api.ErrArg)
	checkOpen(t, w, sealed{s.x, s.y, s.z - api.Prime}, 0, 0, api.ErrArg)
}

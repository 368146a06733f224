package veil_test

import (
	"math/rand"
	"testing"

	"veil/api"
	"veil/veil"
)

// anyNumbers are ints that are as likely right as wrong at any place.
var anyNumbers = []int{least, -api.Prime, -1, 0, 1, 2, 3, 11, 12, 13, 64, 1 << 31, 1 << 32, last, api.Prime, api.Prime + 1, 1 << 62, most}

func isElement(a int) bool { return 0 <= a && a < api.Prime }

// noughtsOn tells whether all results beside an error are 0, and results
// beside OK are elements.
func noughtsOn(e api.Errno, results ...int) bool {
	for _, v := range results {
		if e != api.OK && v != 0 || !isElement(v) {
			return false
		}
	}
	return true
}

// TestAnyNumbers (P1): the calls that take numbers alone end at all of them,
// and answer noughts beside an error.
func TestAnyNumbers(t *testing.T) {
	for _, a := range anyNumbers {
		for _, b := range anyNumbers {
			if v, e := veil.Times(a, b); !noughtsOn(e, v) || (e == api.OK) != (isElement(a) && isElement(b)) {
				t.Errorf("P1: Times(%d, %d) = %d, %d", a, b, v, e)
			}
			if v, e := veil.Power(a, b); !noughtsOn(e, v) || (e == api.OK) != (isElement(a) && b >= 0) {
				t.Errorf("P1: Power(%d, %d) = %d, %d", a, b, v, e)
			}
			if v, e := veil.Stretch(a, b); (e == api.OK) != (isElement(a) && 0 <= b && b <= 12) || e != api.OK && v != nil {
				t.Errorf("P1: Stretch(%d, %d) = %v, %d", a, b, v, e)
			}
		}
	}
}

// TestAnySealed (P1).
func TestAnySealed(t *testing.T) {
	r := rand.New(rand.NewSource(1))
	for i := 0; i < 50000; i++ {
		var n [6]int
		for j := range n {
			n[j] = anyNumbers[r.Intn(len(anyNumbers))]
		}
		right := isElement(n[0]) && 1 <= n[1] && n[1] <= 12 && 1 <= n[2] && n[2] <= 12 && isElement(n[3]) && isElement(n[4])
		x, y, z, e := veil.Seal(n[0], n[1], n[2], n[3], n[4])
		if !noughtsOn(e, x, y, z) || (e == api.OK) != right {
			t.Errorf("P1: Seal(%v) = %d, %d, %d, %d", n[:5], x, y, z, e)
		}
		a, b, e := veil.Open(n[0], n[1], n[2], n[3], n[4], n[5])
		if !noughtsOn(e, a, b) || (e == api.ErrArg) != (!right || !isElement(n[5])) {
			t.Errorf("P1: Open(%v) = %d, %d, %d", n, a, b, e)
		}
	}
}

// TestAnyLists (P1).
func TestAnyLists(t *testing.T) {
	r := rand.New(rand.NewSource(2))
	for i := 0; i < 50000; i++ {
		draws := make([]int, r.Intn(15))
		points := make([]api.Point, r.Intn(15))
		for j := range draws {
			draws[j] = anyNumbers[r.Intn(len(anyNumbers))]
		}
		for j := range points {
			points[j].X = anyNumbers[r.Intn(len(anyNumbers))]
			points[j].Y = anyNumbers[r.Intn(len(anyNumbers))]
		}
		secret := anyNumbers[r.Intn(len(anyNumbers))]
		n := anyNumbers[r.Intn(len(anyNumbers))]
		shares, e := veil.Split(secret, draws, n)
		if e != api.OK && shares != nil || e == api.OK && len(shares) != n || !noughtsOn(api.OK, shares...) {
			t.Errorf("P1: Split(%d, %v, %d) = %v, %d", secret, draws, n, shares, e)
		}
		if v, e := veil.Join(points); !noughtsOn(e, v) {
			t.Errorf("P1: Join(%v) = %d, %d", points, v, e)
		}
	}
}

// TestNothingIsWrittenInto (P2): neither a list that is handed in nor its
// spare room, be the call answered with OK or with an error.
func TestNothingIsWrittenInto(t *testing.T) {
	for _, n := range []int{0, 1, 3, 4, 12, 13} {
		room := []int{3, 1, 4, 1, 5, 9, 2, 6}
		veil.Split(7, room[:3], n)
		if !same(room, []int{3, 1, 4, 1, 5, 9, 2, 6}) {
			t.Errorf("P2: Split(.., %d) left %v behind", n, room)
		}
	}
	for n := 0; n <= 6; n++ {
		room := pointsOf(9, 1, 2, 8, 5, 3, 12, 4, 9, 7, 1, 6)
		veil.Join(room[:n])
		for i, p := range pointsOf(9, 1, 2, 8, 5, 3, 12, 4, 9, 7, 1, 6) {
			if room[i] != p {
				t.Errorf("P2: Join of %d points left %v behind", n, room)
			}
		}
	}
}

// scrawl writes into a list and into its spare room.
func scrawl(l []int) {
	l = l[:cap(l)]
	for i := range l {
		l[i] = -77
	}
}

// TestWhatComesOutIsFresh (P2): a caller that writes into an answer changes
// no other one, and none that comes later.
func TestWhatComesOutIsFresh(t *testing.T) {
	draws := []int{2, 1}
	kept, _ := veil.Split(7, draws, 4)
	other, _ := veil.Split(7, draws, 4)
	constant, _ := veil.Split(7, nil, 2)
	mask, _ := veil.Stretch(0, 3)
	otherMask, _ := veil.Stretch(0, 3)
	none, _ := veil.Stretch(0, 0)
	scrawl(other)
	scrawl(constant)
	scrawl(otherMask)
	scrawl(none)
	if !same(kept, []int{10, 15, 22, 31}) || !same(mask, []int{3145729, 25165836, 84934696}) || !same(draws, []int{2, 1}) {
		t.Errorf("P2: writing into answers changed %v, %v or %v", kept, mask, draws)
	}
	checkSplit(t, 7, draws, 4, []int{10, 15, 22, 31}, api.OK)
	checkSplit(t, 7, nil, 2, []int{7, 7}, api.OK)
	checkStretch(t, 0, 3, []int{3145729, 25165836, 84934696}, api.OK)
}

// TestNothingIsKept (P2): what is written later into a list that was handed
// in changes no answer.
func TestNothingIsKept(t *testing.T) {
	draws := []int{2, 1}
	shares, _ := veil.Split(7, draws, 4)
	scrawl(draws)
	if !same(shares, []int{10, 15, 22, 31}) {
		t.Errorf("P2: writing into the draws made the shares %v", shares)
	}
	checkSplit(t, 7, []int{2, 1}, 4, []int{10, 15, 22, 31}, api.OK)
	points := pointsOf(4, 31, 1, 10, 2, 15)
	veil.Join(points)
	points[0].X = 2
	checkJoin(t, points, 0, api.ErrPoint)
	points[0] = api.Point{X: 4, Y: 31}
	checkJoin(t, points, 7, api.OK)
}

// TestOnlyArgumentsCount (P2): calls in between, refused ones too, change no
// answer.
func TestOnlyArgumentsCount(t *testing.T) {
	w := way{98765432123456789, 3, 11}
	s := plainSeal(w, 5, 6)
	for i := 0; i < 3; i++ {
		checkTimes(t, 6, 7, 42, api.OK)
		checkTimes(t, -1, 7, 0, api.ErrArg)
		checkPower(t, 3, 5, 243, api.OK)
		checkPower(t, 3, -5, 0, api.ErrArg)
		checkSplit(t, 7, []int{2, 1}, 4, []int{10, 15, 22, 31}, api.OK)
		checkSplit(t, 7, []int{2, 1}, 2, nil, api.ErrArg)
		checkJoin(t, pointsOf(4, 31, 1, 10, 2, 15), 7, api.OK)
		checkJoin(t, nil, 0, api.ErrPoint)
		checkStretch(t, 1, 1, []int{12582915}, api.OK)
		checkStretch(t, 1, 13, nil, api.ErrArg)
		checkSeal(t, w, 5, 6, s, api.OK)
		checkOpen(t, w, s, 5, 6, api.OK)
		checkOpen(t, w, sealed{s.x, s.y, plainPlus(s.z, 1)}, 0, 0, api.ErrTag)
	}
}

package veil_test

import (
	"math/rand"
	"testing"

	"veil/api"
	"veil/veil"
)

func checkSplit(t *testing.T, secret int, draws []int, n int, want []int, wantErr api.Errno) {
	t.Helper()
	v, e := veil.Split(secret, draws, n)
	if !same(v, want) || e != wantErr || (e != api.OK && v != nil) {
		t.Errorf("P4: Split(%d, %.60v, %d) = %v, %d, want %v, %d", secret, draws, n, v, e, want, wantErr)
	}
}

func checkJoin(t *testing.T, points []api.Point, want int, wantErr api.Errno) {
	t.Helper()
	if v, e := veil.Join(points); v != want || e != wantErr {
		t.Errorf("P4: Join(%v) = %d, %d, want %d, %d", points, v, e, want, wantErr)
	}
}

// pointsOf makes points of numbers, two by two.
func pointsOf(l ...int) []api.Point {
	var points []api.Point
	for i := 0; i+1 < len(l); i += 2 {
		points = append(points, api.Point{X: l[i], Y: l[i+1]})
	}
	return points
}

// someElements gives n elements, now and then one of the edges.
func someElements(r *rand.Rand, n int) []int {
	l := make([]int, n)
	for i := range l {
		l[i] = int(r.Int63n(api.Prime))
		if r.Intn(3) == 0 {
			l[i] = edges[r.Intn(len(edges))]
		}
	}
	return l
}

func TestSplitOfTheDocument(t *testing.T) {
	checkSplit(t, 7, []int{2, 1}, 4, []int{10, 15, 22, 31}, api.OK)
	checkSplit(t, 5, []int{}, 3, []int{5, 5, 5}, api.OK)
	checkSplit(t, 5, nil, 3, []int{5, 5, 5}, api.OK)
	checkSplit(t, 7, []int{2, 1}, 2, nil, api.ErrArg)
}

func TestSplitOfElements(t *testing.T) {
	r := rand.New(rand.NewSource(4))
	for n := 1; n <= api.MaxClients; n++ {
		for draws := 0; draws < n; draws++ {
			for try := 0; try < 10; try++ {
				l := someElements(r, draws+1)
				var want []int
				for x := 1; x <= n; x++ {
					want = append(want, plainValue(l, x))
				}
				checkSplit(t, l[0], l[1:], n, want, api.OK)
			}
		}
	}
}

func TestSplitOfWrongNumbers(t *testing.T) {
	for _, wrong := range noElements {
		checkSplit(t, wrong, []int{1}, 3, nil, api.ErrArg)
		for i := 0; i < 3; i++ {
			draws := []int{1, 2, 3}
			draws[i] = wrong
			checkSplit(t, 1, draws, 4, nil, api.ErrArg)
		}
	}
	for _, n := range []int{least, -1, 0, 13, 14, most} {
		checkSplit(t, 1, nil, n, nil, api.ErrArg)
		checkSplit(t, 1, []int{1, 2}, n, nil, api.ErrArg)
	}
}

func TestSplitOfTooManyDraws(t *testing.T) {
	for n := 1; n <= api.MaxClients; n++ {
		for draws := n; draws <= 14; draws++ {
			checkSplit(t, 1, make([]int, draws), n, nil, api.ErrArg)
		}
		checkSplit(t, 1, make([]int, 100000), n, nil, api.ErrArg)
	}
}

func TestJoinOfTheDocument(t *testing.T) {
	checkJoin(t, pointsOf(4, 31, 1, 10, 2, 15), 7, api.OK)
	checkJoin(t, pointsOf(1, 0, 2, 1), api.Prime-1, api.OK)
	checkJoin(t, pointsOf(9, 4), 4, api.OK)
}

// TestJoinThroughPolynomials: a polynomial of any degree below the number of
// points is the one that goes through them, whichever they are and in
// whatever order.
func TestJoinThroughPolynomials(t *testing.T) {
	r := rand.New(rand.NewSource(5))
	for count := 1; count <= api.MaxClients; count++ {
		for try := 0; try < 60; try++ {
			coefficients := someElements(r, 1+r.Intn(count))
			var points []api.Point
			for _, place := range r.Perm(api.MaxClients)[:count] {
				points = append(points, api.Point{X: place + 1, Y: plainValue(coefficients, place+1)})
			}
			checkJoin(t, points, coefficients[0], api.OK)
		}
	}
}

func TestJoinOfSplit(t *testing.T) {
	secret := 123456789012345678
	draws := []int{last, 1 << 59, 0, 987654321}
	shares, e := veil.Split(secret, draws, api.MaxClients)
	if e != api.OK || len(shares) != api.MaxClients {
		t.Fatalf("P4: Split = %v, %d", shares, e)
	}
	for set := 0; set < 1<<api.MaxClients; set++ {
		var points []api.Point
		for i, y := range shares {
			if set>>i&1 == 1 {
				points = append(points, api.Point{X: i + 1, Y: y})
			}
		}
		if len(points) > len(draws) {
			checkJoin(t, points, secret, api.OK)
		}
	}
}

func TestJoinOfWrongPoints(t *testing.T) {
	checkJoin(t, nil, 0, api.ErrPoint)
	checkJoin(t, []api.Point{}, 0, api.ErrPoint)
	for i := 0; i < 3; i++ {
		for _, wrong := range noClients {
			points := pointsOf(1, 5, 7, 6, 12, 7)
			points[i].X = wrong
			checkJoin(t, points, 0, api.ErrPoint)
		}
		for _, wrong := range noElements {
			points := pointsOf(1, 5, 7, 6, 12, 7)
			points[i].Y = wrong
			checkJoin(t, points, 0, api.ErrPoint)
		}
	}
}

func TestJoinOfEqualXs(t *testing.T) {
	for i := 0; i < 4; i++ {
		for j := 0; j < i; j++ {
			points := pointsOf(12, 5, 1, 6, 3, 7, 8, 8)
			points[i].X = points[j].X
			checkJoin(t, points, 0, api.ErrPoint)
			points[i].Y = points[j].Y
			checkJoin(t, points, 0, api.ErrPoint)
		}
	}
}

func TestJoinOfTooManyPoints(t *testing.T) {
	var points []api.Point
	for x := 1; x <= 13; x++ {
		points = append(points, api.Point{X: x, Y: 4})
	}
	checkJoin(t, points[:12], 4, api.OK)
	checkJoin(t, points, 0, api.ErrPoint)
	points[12].X = 1
	checkJoin(t, points, 0, api.ErrPoint)
	checkJoin(t, make([]api.Point, 100000), 0, api.ErrPoint)
}

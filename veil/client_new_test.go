package veil_test

import (
	"math/rand"
	"slices"
	"testing"

	"veil/api"
	"veil/veil"
)

// rightConfig and rightDraw are not at an edge.
var rightConfig = api.Config{N: 5, T: 3, M: 4, D: 7}

func rightDraw() api.Draw {
	return api.Draw{Input: []int{4, 3, 2, 1}, Channel: 5, Mask: 6, Seed: 7, SplitMask: []int{8, 9}, SplitSeed: []int{10, 11}}
}

func checkNoClient(t *testing.T, c api.Config, id int, d api.Draw, want api.Errno) {
	t.Helper()
	if x, e := veil.NewClient(c, id, d); x != nil || e != want {
		t.Errorf("P8: NewClient(%v, %d, %v) = %v, %d, want %d", c, id, d, x, e, want)
	}
}

// checkConfig: c is a configuration just if it should be one.
func checkConfig(t *testing.T, c api.Config, right bool) {
	t.Helper()
	if !right {
		checkNoClient(t, c, 1, rightDraw(), api.ErrConfig)
		return
	}
	pairFor(t, c, 1, drawOf(rand.New(rand.NewSource(8)), c))
}

// eachConfig tries configurations, and what is none, each number at its edges
// and beyond them.
func eachConfig(try func(c api.Config, right bool)) {
	numbers := []int{least, -1, 0, 1, 2, 3, 4, 5, 6, 11, 12, 13, 49, 50, 51, 1<<32 + 1, 1<<32 + 5, most}
	for _, n := range numbers {
		try(api.Config{N: n, T: 3, M: 4, D: 7}, 3 <= n && n <= 12)
		try(api.Config{N: 5, T: n, M: 4, D: 7}, 1 <= n && n <= 5)
		try(api.Config{N: 5, T: 3, M: n, D: 7}, 1 <= n && n <= 12)
		try(api.Config{N: 5, T: 3, M: 4, D: n}, 1 <= n && n <= 50)
		for _, m := range numbers {
			try(api.Config{N: n, T: m, M: 1, D: 1}, 1 <= n && n <= 12 && 1 <= m && m <= n)
		}
	}
	try(api.Config{}, false)
	try(api.Config{N: 1, T: 1, M: 1, D: 1}, true)
	try(api.Config{N: 12, T: 12, M: 12, D: 50}, true)
}

func TestConfigurations(t *testing.T) {
	eachConfig(func(c api.Config, right bool) {
		t.Helper()
		checkConfig(t, c, right)
	})
}

func TestNumbersOfClients(t *testing.T) {
	for n := 3; n <= 12; n++ {
		c := rightConfig
		c.N = n
		for id := 1; id <= n; id++ {
			pairFor(t, c, id, rightDraw())
		}
		for _, id := range append([]int{n + 1, 1<<32 + 1, -n}, noClients...) {
			checkNoClient(t, c, id, rightDraw(), api.ErrArg)
		}
	}
}

// placesOf are all numbers of a draw.
func placesOf(d *api.Draw) (words, elements []*int) {
	for i := range d.Input {
		words = append(words, &d.Input[i])
	}
	elements = append(elements, &d.Channel, &d.Mask, &d.Seed)
	for i := range d.SplitMask {
		elements = append(elements, &d.SplitMask[i])
	}
	for i := range d.SplitSeed {
		elements = append(elements, &d.SplitSeed[i])
	}
	return words, elements
}

// TestNumbersOfDraws: at each place of a draw what may stand there, and what
// may not.
func TestNumbersOfDraws(t *testing.T) {
	d := rightDraw()
	words, places := placesOf(&d)
	for _, place := range append(words, places...) {
		kept := *place
		top := last
		if slices.Contains(words, place) {
			top = api.Word - 1
		}
		for _, right := range []int{0, 1, api.Word - 1, top} {
			*place = right
			pairFor(t, rightConfig, 2, d)
		}
		for _, wrong := range append([]int{top + 1}, noElements...) {
			*place = wrong
			checkNoClient(t, rightConfig, 2, d, api.ErrDraw)
		}
		*place = kept
	}
}

// TestListsOfDraws: each list of a draw has its length.
func TestListsOfDraws(t *testing.T) {
	for _, c := range []api.Config{rightConfig, {N: 12, T: 12, M: 12, D: 50}, {N: 4, T: 1, M: 1, D: 1}, {N: 4, T: 2, M: 3, D: 1}} {
		for _, n := range []int{0, 1, 2, 3, 4, 5, 10, 11, 12, 13, 1 << 20} {
			d := drawOf(rand.New(rand.NewSource(9)), c)
			if n != c.M {
				d.Input = make([]int, n)
				checkNoClient(t, c, 2, d, api.ErrDraw)
			}
			d = drawOf(rand.New(rand.NewSource(9)), c)
			if n != c.T-1 {
				d.SplitMask = make([]int, n)
				checkNoClient(t, c, 2, d, api.ErrDraw)
				d = drawOf(rand.New(rand.NewSource(9)), c)
				d.SplitSeed = make([]int, n)
				checkNoClient(t, c, 2, d, api.ErrDraw)
			}
		}
		d := drawOf(rand.New(rand.NewSource(9)), c)
		d.Input = nil
		checkNoClient(t, c, 2, d, api.ErrDraw)
	}
	checkNoClient(t, rightConfig, 2, api.Draw{}, api.ErrDraw)
	none := api.Config{N: 4, T: 1, M: 1, D: 1}
	pairFor(t, none, 2, api.Draw{Input: []int{1}})
	pairFor(t, none, 2, api.Draw{Input: []int{1}, SplitMask: []int{}, SplitSeed: []int{}})
}

// TestWhichErrorIsFirst (P1): the configuration, the number, then the draw.
func TestWhichErrorIsFirst(t *testing.T) {
	wrong := rightConfig
	wrong.D = 51
	for _, id := range []int{0, 1, 6} {
		for _, d := range []api.Draw{rightDraw(), {}} {
			checkNoClient(t, wrong, id, d, api.ErrConfig)
			if id != 1 {
				checkNoClient(t, rightConfig, id, d, api.ErrArg)
			}
		}
	}
	checkNoClient(t, rightConfig, 1, api.Draw{}, api.ErrDraw)
}

// TestHello: the public keys of a client are powers of 37.
func TestHello(t *testing.T) {
	for i, a := range elements(100) {
		d := rightDraw()
		d.Channel = a
		pairFor(t, rightConfig, 1+i%5, d)
		d.Mask = plainMinus(0, a)
		pairFor(t, rightConfig, 1+i%5, d)
	}
	d := rightDraw()
	d.Channel = 2
	d.Mask = 1
	x, _ := veil.NewClient(rightConfig, 4, d)
	if h := x.Hello(); string(h) != "\x01\x04\x01\x04\x59\x05\x00\x00\x00\x00\x00\x00\x25\x00\x00\x00\x00\x00\x00\x00" {
		t.Errorf("P8: Hello() = %v", h)
	}
}

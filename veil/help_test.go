package veil_test

import (
	"math/big"
	"math/rand"

	"veil/api"
)

const (
	most  = 1<<63 - 1
	least = -1 << 63
	last  = api.Prime - 1
)

// edges are elements at which an arithmetic in two halves could go wrong.
var edges = []int{
	0, 1, 2, 3, 36, 37,
	1<<29 - 1, 1 << 29, 1<<30 - 1, 1 << 30, 1<<30 + 1,
	1<<31 - 1, 1 << 31, 1<<31 + 1, 1<<32 - 1, 1 << 32, 1<<32 + 1,
	api.Step - 1, api.Step, 1<<59 - 1, 1 << 59, 1<<60 - 1, 1 << 60, 1<<60 + 1,
	1<<61 - 1<<31 - 1, 1<<61 - 1<<31, 1<<61 - 1<<30, last - api.Step, api.Prime - api.Step, last - 2, last - 1, last,
}

// noElements are ints that are no element.
var noElements = []int{least, least + 1, -api.Prime, -1 << 32, -2, -1, api.Prime, api.Prime + 1, 1 << 61, 1 << 62, most - 1, most}

// noClients are ints that are no client's number.
var noClients = []int{least, -12, -1, 0, 13, 14, 64, api.Prime, most}

// elements gives the edges, and some elements from all over, the same each time.
func elements(more int) []int {
	r := rand.New(rand.NewSource(61))
	l := append([]int(nil), edges...)
	for i := 0; i < more; i++ {
		l = append(l, int(r.Int63n(api.Prime)))
	}
	return l
}

// What follows reckons as the document words it, with numbers of any size.

var prime = big.NewInt(api.Prime)

func large(a int) *big.Int { return big.NewInt(int64(a)) }

// reduced brings a number of any size and sign down to an element.
func reduced(a *big.Int) int { return int(new(big.Int).Mod(a, prime).Int64()) }

func plainTimes(a, b int) int { return reduced(new(big.Int).Mul(large(a), large(b))) }

func plainPlus(a, b int) int { return reduced(new(big.Int).Add(large(a), large(b))) }

func plainPower(a, k int) int { return reduced(new(big.Int).Exp(large(a), large(k), prime)) }

// plainPad is the pad number q of k.
func plainPad(k, q int) int {
	w := new(big.Int).Add(large(k), new(big.Int).Mul(large(q), large(api.Step)))
	return reduced(new(big.Int).Exp(w, large(3), nil))
}

// plainValue is the value at x of the polynomial with these coefficients.
func plainValue(coefficients []int, x int) int {
	sum := new(big.Int)
	for i, c := range coefficients {
		sum.Add(sum, new(big.Int).Mul(large(c), new(big.Int).Exp(large(x), large(i), nil)))
	}
	return reduced(sum)
}

func same(a, b []int) bool {
	if len(a) != len(b) {
		return false
	}
	for i := range a {
		if a[i] != b[i] {
			return false
		}
	}
	return true
}

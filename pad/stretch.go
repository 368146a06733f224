package pad

import (
	"veil/api"
	"veil/bounds"
)

// dropped is 2 to the 20: the low bits of a pad that a mask leaves out.
const dropped = 1 << 20

// Stretch makes a mask of n numbers out of a seed.
func Stretch(seed, n int) ([]int, api.Errno) {
	if !bounds.Element(seed) || n < 0 || n > api.MaxLen {
		return nil, api.ErrArg
	}
	mask := make([]int, 0, n)
	for i := 1; i <= n; i++ {
		mask = append(mask, MaskNumber(seed, i))
	}
	return mask, api.OK
}

// MaskNumber gives the number i of the mask that Stretch makes out of a seed;
// the first is number 1. Both that it is handed are elements.
func MaskNumber(seed, i int) int {
	return number(seed, i) / dropped % api.Word
}

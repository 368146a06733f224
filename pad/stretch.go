package pad

import (
	"veil/api"
	"veil/bounds"
)

// dropped is 2 to the 20: the low bits of a pad that a mask leaves out.
const dropped = 1 << 20

// Stretch makes a mask of n numbers out of a seed.
func Stretch(seed, n int) ([]int, api.Errno) {
	if !bounds.Element(seed) || n < 0 || n > api.MaxLen {
		return nil, api.ErrArg
	}
	mask := make([]int, 0, n)
	for i := 1; i <= n; i++ {
		p := number(seed, i)
		mask = append(mask, p/dropped%api.Word)
	}
	return mask, api.OK
}

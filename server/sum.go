package server

import (
	"veil/api"
	"veil/field"
	"veil/pad"
	"veil/share"
)

// mask is one that is left in the sum of the masked lists: it was added there,
// or taken away.
type mask struct {
	seed  int
	added bool
}

// maskedSum gives the sum of the masked lists.
func (x *Server) maskedSum() []int {
	var sum []int
	for i := 1; i <= x.config.M; i++ {
		number := 0
		for _, items := range x.items {
			number = number + itemOf(items, i).A
		}
		sum = append(sum, number%api.Word)
	}
	return sum
}

// unmasked gives the sum of the lists: the masked one without its masks.
func (x *Server) unmasked() []int {
	masks := x.masks()
	var sum []int
	for i, number := range x.masked {
		off := takenOff(masks, i+1)
		sum = append(sum, (number+off)%api.Word)
	}
	return sum
}

// takenOff gives what takes the masks off the number i of the masked sum: it
// is not below 0.
func takenOff(masks []mask, i int) int {
	sum := 0
	for _, m := range masks {
		if m.added {
			sum = sum + api.Word - pad.MaskNumber(m.seed, i)
		} else {
			sum = sum + pad.MaskNumber(m.seed, i)
		}
	}
	return sum
}

// masks gives all masks that are left in the sum of the masked lists. Those
// between two who stayed are not: one of them has added what the other has
// taken away.
func (x *Server) masks() []mask {
	var masks []mask
	for v, isSharer := range x.sharers {
		if isSharer {
			secret := x.secretOf(v)
			left := x.masksWith(v, secret)
			masks = append(masks, left...)
		}
	}
	return masks
}

// masksWith gives what is left because of v, whose secret is its seed if it
// stayed, or else its mask key.
func (x *Server) masksWith(v, secret int) []mask {
	if x.senders[v] {
		return []mask{{seed: secret, added: true}}
	}
	var masks []mask
	for u, stayed := range x.senders {
		if stayed {
			key := field.Power(x.publics[u], secret)
			masks = append(masks, mask{seed: key, added: u < v})
		}
	}
	return masks
}

// secretOf joins the shares of v that were told.
func (x *Server) secretOf(v int) int {
	var points []api.Point
	for w, isTeller := range x.counted {
		if isTeller {
			points = append(points, api.Point{X: w, Y: itemOf(x.items[w], v).B})
		}
	}
	// The tellers are T clients or more, and tell elements, so that nothing is
	// refused.
	secret, _ := share.Join(points)
	return secret
}

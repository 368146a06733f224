package client

import (
	"veil/api"
	"veil/field"
	"veil/pad"
	"veil/share"
)

// takeKeys takes the public keys of FIRST, and answers the client's shares.
func (x *Client) takeKeys(items []api.Item) []byte {
	if !x.keysAgree(items) {
		x.halt()
		return nil
	}
	x.peers = x.first(items)
	shares := x.sealedShares()
	x.phase = waitsForBox
	x.draw = api.Draw{Input: x.draw.Input, Seed: x.draw.Seed}
	return x.written(api.Shares, shares)
}

// keysAgree tells whether the client can go on with these public keys.
func (x *Client) keysAgree(items []api.Item) bool {
	if len(items) < x.t {
		return false
	}
	hasOwn := false
	for _, item := range items {
		if item.Id > x.n {
			return false
		}
		if item.Id == x.id {
			hasOwn = item.A == x.channelPublic && item.B == x.maskPublic
		}
	}
	return hasOwn
}

// first gives the peers of FIRST. Of itself the client never tells a mask
// share, because it must be of THIRD: it lays only its seed share by.
func (x *Client) first(items []api.Item) circle {
	var peers circle
	for _, item := range items {
		p := peer{member: true}
		if item.Id == x.id {
			p.seedShare = x.seedShareFor(x.id)
		} else {
			p.channelKey = field.Power(item.A, x.draw.Channel)
			p.maskKey = field.Power(item.B, x.draw.Mask)
		}
		peers[item.Id] = p
	}
	return peers
}

// maskShareFor gives the client's mask share number v.
func (x *Client) maskShareFor(v int) int {
	return share.Number(x.draw.Mask, x.draw.SplitMask, v)
}

// seedShareFor gives the client's seed share number v.
func (x *Client) seedShareFor(v int) int {
	return share.Number(x.draw.Seed, x.draw.SplitSeed, v)
}

// sealedShares gives the items of the Shares frame.
func (x *Client) sealedShares() []api.Item {
	var items []api.Item
	for v, p := range x.peers {
		if p.member && v != x.id {
			maskShare := x.maskShareFor(v)
			seedShare := x.seedShareFor(v)
			// The keys and shares are elements, so that nothing is refused.
			a, b, c, _ := pad.Seal(p.channelKey, x.id, v, maskShare, seedShare)
			items = append(items, api.Item{Id: v, A: a, B: b, C: c})
		}
	}
	return items
}

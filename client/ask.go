package client

import (
	"veil/api"
	"veil/frame"
)

// takeAsk takes the numbers of THIRD, and answers the shares that take the
// masks off their sum.
func (x *Client) takeAsk(items []api.Item) []byte {
	if !x.askAgrees(items) {
		x.halt()
		return nil
	}
	x.told = x.shares(items)
	x.phase = hasTold
	x.peers = circle{}
	return x.written(api.Tell, x.told)
}

// askAgrees tells whether the client can answer that these have stayed.
func (x *Client) askAgrees(items []api.Item) bool {
	if len(items) < x.t {
		return false
	}
	hasOwn := false
	for _, item := range items {
		if !x.peers[item.Id].member {
			return false
		}
		if item.Id == x.id {
			hasOwn = true
		}
	}
	return hasOwn
}

// shares gives the items of the Tell frame. Of no peer does it give both
// shares: who has both masks of a client can read its list.
func (x *Client) shares(third []api.Item) []api.Item {
	var stayed [api.MaxClients + 1]bool
	for _, item := range third {
		stayed[item.Id] = true
	}
	var items []api.Item
	for v, p := range x.peers {
		if p.member && stayed[v] {
			items = append(items, api.Item{Id: v, A: frame.SeedShare, B: p.seedShare})
		}
		if p.member && !stayed[v] {
			items = append(items, api.Item{Id: v, A: frame.MaskShare, B: p.maskShare})
		}
	}
	return items
}

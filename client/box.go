package client

import (
	"veil/api"
	"veil/pad"
)

// takeBox takes the shares that those of SECOND have sealed for this client,
// and answers its masked list.
func (x *Client) takeBox(items []api.Item) []byte {
	peers, agrees := x.second(items)
	if !agrees {
		x.halt()
		return nil
	}
	x.peers = peers
	list := x.maskedList()
	x.phase = waitsForAsk
	x.draw = api.Draw{}
	return x.written(api.Masked, list)
}

// second gives the peers of SECOND with their shares, if the client can go on
// with these items.
func (x *Client) second(items []api.Item) (circle, bool) {
	// The client itself is of SECOND too.
	if len(items)+1 < x.t {
		return circle{}, false
	}
	var peers circle
	peers[x.id] = x.peers[x.id]
	for _, item := range items {
		p := x.peers[item.Id]
		if item.Id == x.id || !p.member {
			return circle{}, false
		}
		maskShare, seedShare, e := pad.Open(p.channelKey, item.Id, x.id, item.A, item.B, item.C)
		if e != api.OK {
			return circle{}, false
		}
		peers[item.Id] = peer{member: true, maskKey: p.maskKey, maskShare: maskShare, seedShare: seedShare}
	}
	return peers, true
}

// maskedList gives the items of the Masked frame.
func (x *Client) maskedList() []api.Item {
	var items []api.Item
	for i, number := range x.draw.Input {
		sum := (number + x.masks(i+1)) % api.Word
		items = append(items, api.Item{Id: i + 1, A: sum})
	}
	return items
}

// masks gives what is added to the number i of the client's list: it is not
// below 0.
func (x *Client) masks(i int) int {
	sum := pad.MaskNumber(x.draw.Seed, i)
	for v, p := range x.peers {
		if p.member && v > x.id {
			sum = sum + pad.MaskNumber(p.maskKey, i)
		}
		// What one of two clients adds the other takes away, so that nothing
		// is left of it in the sum of both lists.
		if p.member && v < x.id {
			sum = sum + api.Word - pad.MaskNumber(p.maskKey, i)
		}
	}
	return sum
}

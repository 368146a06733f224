// Package client: one of those whose lists are added up (P8 to P11).
package client

import (
	"veil/api"
	"veil/bounds"
	"veil/field"
	"veil/frame"
)

// The phases of a client: what it waits for, or why it waits for nothing.
const (
	halted       = 0
	waitsForKeys = 1
	waitsForBox  = 2
	waitsForAsk  = 3
	hasTold      = 4
)

// peer is what a client knows of one that it reckons with: of FIRST at phase 2,
// of SECOND at phase 3. The keys are those with this client, and the shares
// those for this client; of itself a client has the seed share alone.
type peer struct {
	member     bool
	channelKey int
	maskKey    int
	maskShare  int
	seedShare  int
}

// circle has each peer at the place of its number; none has the number 0.
type circle [api.MaxClients + 1]peer

// Client is one of those whose lists are added up. Its secrets are let go of
// as soon as no later phase needs them.
type Client struct {
	id            int
	phase         int
	channelPublic int
	maskPublic    int
	n             int
	t             int
	draw          api.Draw
	peers         circle
	told          []api.Item
}

// New makes a client.
func New(c api.Config, id int, d api.Draw) (Client, api.Errno) {
	if !bounds.Config(c) {
		return Client{}, api.ErrConfig
	}
	if id < 1 || id > c.N {
		return Client{}, api.ErrArg
	}
	if !bounds.Draw(c, d) {
		return Client{}, api.ErrDraw
	}
	x := Client{id: id, phase: waitsForKeys, n: c.N, t: c.T}
	x.channelPublic = field.Power(api.Base, d.Channel)
	x.maskPublic = field.Power(api.Base, d.Mask)
	x.draw = copied(d)
	return x, api.OK
}

// copied gives a draw that shares no room with d, which is the caller's.
func copied(d api.Draw) api.Draw {
	d.Input = append([]int(nil), d.Input...)
	d.SplitMask = append([]int(nil), d.SplitMask...)
	d.SplitSeed = append([]int(nil), d.SplitSeed...)
	return d
}

// Hello is the client's first frame.
func (x *Client) Hello() []byte {
	own := api.Item{Id: x.id, A: x.channelPublic, B: x.maskPublic}
	return x.written(api.Hello, []api.Item{own})
}

// Phase tells what the client waits for.
func (x *Client) Phase() int {
	return x.phase
}

// Released tells which shares the client has told.
func (x *Client) Released() []api.Item {
	return append([]api.Item(nil), x.told...)
}

// Take takes bytes in, and gives the answer.
func (x *Client) Take(b []byte) []byte {
	f, e := frame.Decode(b)
	if e != api.OK {
		return nil
	}
	switch {
	case x.phase == waitsForKeys && f.Kind == api.Keys:
		return x.takeKeys(f.Items)
	case x.phase == waitsForBox && f.Kind == api.Box:
		return x.takeBox(f.Items)
	case x.phase == waitsForAsk && f.Kind == api.Ask:
		return x.takeAsk(f.Items)
	}
	return nil
}

// written gives the bytes of a frame of this client.
func (x *Client) written(kind int, items []api.Item) []byte {
	// All that a client writes is a frame, so that nothing is refused.
	b, _ := frame.Encode(api.Frame{Kind: kind, From: x.id, Items: items})
	return b
}

// Crash ends the client: it takes nothing any more. What it has told stays told.
func (x *Client) Crash() {
	told := x.told
	x.halt()
	x.told = told
}

// halt leaves of the client what its Hello needs, and no more.
func (x *Client) halt() {
	*x = Client{id: x.id, phase: halted, channelPublic: x.channelPublic, maskPublic: x.maskPublic}
}

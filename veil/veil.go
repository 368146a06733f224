// Package veil: the sum of lists that nobody is shown: see DOC.md.
package veil

import (
	"veil/api"
	"veil/bounds"
	"veil/client"
	"veil/field"
	"veil/frame"
	"veil/pad"
	"veil/server"
	"veil/session"
	"veil/share"
)

// Times multiplies two elements (P3).
func Times(a, b int) (int, api.Errno) {
	if !bounds.Element(a) || !bounds.Element(b) {
		return 0, api.ErrArg
	}
	return field.Times(a, b), api.OK
}

// Power raises an element to a power (P3).
func Power(a, k int) (int, api.Errno) {
	if !bounds.Element(a) || k < 0 {
		return 0, api.ErrArg
	}
	return field.Power(a, k), api.OK
}

// Split makes shares of a secret (P4).
func Split(secret int, draws []int, n int) ([]int, api.Errno) {
	return share.Split(secret, draws, n)
}

// Join makes a secret out of shares (P4).
func Join(points []api.Point) (int, api.Errno) {
	return share.Join(points)
}

// Stretch makes a mask out of a seed (P5).
func Stretch(seed, n int) ([]int, api.Errno) {
	return pad.Stretch(seed, n)
}

// Seal makes two elements unreadable on their way (P6).
func Seal(key, from, to, a, b int) (int, int, int, api.Errno) {
	return pad.Seal(key, from, to, a, b)
}

// Open reads what was sealed (P6).
func Open(key, from, to, x, y, z int) (int, int, api.Errno) {
	return pad.Open(key, from, to, x, y, z)
}

// Encode writes a frame as bytes (P7).
func Encode(f api.Frame) ([]byte, api.Errno) {
	return frame.Encode(f)
}

// Decode reads a frame (P7).
func Decode(b []byte) (api.Frame, api.Errno) {
	return frame.Decode(b)
}

// Client is one of those whose lists are added up.
type Client struct {
	inner client.Client
}

// NewClient makes a client (P8).
func NewClient(c api.Config, id int, d api.Draw) (*Client, api.Errno) {
	inner, e := client.New(c, id, d)
	if e != api.OK {
		return nil, e
	}
	return &Client{inner: inner}, api.OK
}

// Hello is the client's first frame (P8).
func (x *Client) Hello() []byte {
	return x.inner.Hello()
}

// Take takes bytes in, and gives the answer (P9 to P11).
func (x *Client) Take(b []byte) []byte {
	return x.inner.Take(b)
}

// Phase tells what the client waits for (P8).
func (x *Client) Phase() int {
	return x.inner.Phase()
}

// Released tells which shares the client has told (P11).
func (x *Client) Released() []api.Item {
	return x.inner.Released()
}

// Server adds the masked lists up.
type Server struct {
	inner server.Server
}

// NewServer makes a server (P12).
func NewServer(c api.Config) (*Server, api.Errno) {
	inner, e := server.New(c)
	if e != api.OK {
		return nil, e
	}
	return &Server{inner: inner}, api.OK
}

// Take takes bytes in, and tells whether they count (P12).
func (x *Server) Take(b []byte) bool {
	return x.inner.Take(b)
}

// Tick lets a unit of time go by (P13).
func (x *Server) Tick() []api.Parcel {
	return x.inner.Tick()
}

// Outcome tells how it stands (P14).
func (x *Server) Outcome() api.Outcome {
	return x.inner.Outcome()
}

// Session is a server, its clients, and what is in flight between them.
type Session struct {
	inner session.Session
}

// NewSession makes a session (P15).
func NewSession(c api.Config, draws []api.Draw) (*Session, api.Errno) {
	inner, e := session.New(c, draws)
	if e != api.OK {
		return nil, e
	}
	return &Session{inner: inner}, api.OK
}

// Flight tells what is in flight (P15).
func (x *Session) Flight() []api.Parcel {
	return x.inner.Flight()
}

// Deliver brings a parcel to whom it is for (P16).
func (x *Session) Deliver(i int) api.Errno {
	return x.inner.Deliver(i)
}

// Drop loses a parcel (P16).
func (x *Session) Drop(i int) api.Errno {
	return x.inner.Drop(i)
}

// Double makes a parcel twice (P16).
func (x *Session) Double(i int) api.Errno {
	return x.inner.Double(i)
}

// Inject brings bytes that nobody sent (P16).
func (x *Session) Inject(to int, b []byte) api.Errno {
	return x.inner.Inject(to, b)
}

// Tick lets a unit of time go by (P16).
func (x *Session) Tick() {
	x.inner.Tick()
}

// Crash ends a client (P16).
func (x *Session) Crash(u int) api.Errno {
	return x.inner.Crash(u)
}

// Outcome tells how it stands (P14).
func (x *Session) Outcome() api.Outcome {
	return x.inner.Outcome()
}

// Released tells which shares a client has told (P16).
func (x *Session) Released(u int) []api.Item {
	return x.inner.Released(u)
}

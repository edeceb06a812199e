package hush

import (
	"hush/api"
	"hush/cipher"
	"hush/draw"
	"hush/keys"
	"hush/layers"
	"hush/param"
	"hush/ring"
)

// The steps of a layer, in their order.
const (
	sends   = 0
	answers = 1
	opens   = 2
	bends   = 3
)

// Session is a net that two parties work out together. Its lists are replaced,
// never changed in place.
type Session struct {
	p      api.Params
	key    []int
	turn   []cipher.Pair
	rest   []layers.Layer // the layers that are not done
	next   int            // the step that comes next, of the first of them
	client []int          // the client's share
	server []int          // the server's share
	passed cipher.Cipher  // what one party gave the other, until it is opened
}

// New begins a session (P13).
func New(p api.Params, net string, key string, turn string, input string) (*Session, api.Errno) {
	if !param.Good(p) {
		return nil, api.ErrParam
	}
	all, ok := layers.ReadNet(p, net)
	if !ok {
		return nil, api.ErrForm
	}
	s, ok := keys.Read(p.N, key)
	if !ok {
		return nil, api.ErrForm
	}
	pairs, ok := cipher.ReadTurnKey(p, turn)
	if !ok {
		return nil, api.ErrForm
	}
	client, ok := readValues(p, input)
	if !ok {
		return nil, api.ErrValue
	}
	server := make([]int, len(client))
	return &Session{p: p, key: s, turn: pairs, rest: all, next: sends, client: client, server: server}, api.OK
}

// Step takes the next step of a session (P14).
func (x *Session) Step(draws string) (string, api.Errno) {
	if len(x.rest) == 0 {
		return "", api.ErrPhase
	}
	layer := x.rest[0]
	switch x.next {
	case sends:
		return x.send(draws), api.OK
	case answers:
		return x.answer(layer, draws)
	case opens:
		x.open()
	default:
		x.bend(layer, draws)
		x.rest = x.rest[1:]
	}
	return "", api.OK
}

// Shares tells both shares, the client's first (P13).
func (x *Session) Shares() (string, string) {
	client := writeValues(x.client)
	server := writeValues(x.server)
	return client, server
}

// Output tells what has come out (P13).
func (x *Session) Output() (string, api.Errno) {
	if len(x.rest) > 0 {
		return "", api.ErrPhase
	}
	sum := ring.Add(x.client, x.server, x.p.T)
	return writeValues(sum), api.OK
}

// send is the client's step: it hides its share.
func (x *Session) send(draws string) string {
	x.passed = cipher.Encrypt(x.p, x.key, x.client, draws)
	x.next = answers
	return cipher.Write(x.passed)
}

// answer is the server's step: it works on what was sent, and keeps the mask
// that it lays over it. With too much noise nothing has changed yet.
func (x *Session) answer(layer layers.Layer, draws string) (string, api.Errno) {
	mask := draw.Mask(x.p, draws)
	hidden, fits := layers.Linear(x.p, layer, x.passed, x.server, mask, x.turn)
	if !fits {
		return "", api.ErrNoise
	}
	x.passed = hidden
	x.server = mask
	x.next = opens
	return cipher.Write(hidden), api.OK
}

// open is the client's step: it opens the answer, which nobody needs any more.
func (x *Session) open() {
	x.client = cipher.Decrypt(x.p, x.key, x.passed)
	x.passed = cipher.Cipher{}
	x.next = bends
}

// bend is the step of both: their shares become those of what the layer makes.
func (x *Session) bend(layer layers.Layer, draws string) {
	mask := draw.Mask(x.p, draws)
	x.client = layers.Bend(x.p, layer, x.client, x.server, mask)
	x.server = mask
	x.next = sends
}

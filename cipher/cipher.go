// Package cipher hides values in ciphertexts, works on them there, and opens
// them. The parameters it is handed are good, the values and keys of N numbers.
package cipher

import (
	"hush/api"
	"hush/draw"
	"hush/param"
	"hush/ring"
	"hush/slot"
	"hush/text"
)

// Cipher is a ciphertext: its bound, which fits, and its two polynomials.
type Cipher struct {
	Bound int
	C0    []int
	C1    []int
}

// head is how many bytes there are ahead of the polynomials.
const head = 6

// Read gives the ciphertext that a text is; it answers false if it is none.
func Read(p api.Params, s string) (Cipher, bool) {
	if len(s) < head || s[0] != 'C' {
		return Cipher{}, false
	}
	bound := text.Number(s[1:head])
	if !param.Fits(p, bound) {
		return Cipher{}, false
	}
	both, ok := text.Lists(s[head:], 4, p.N, 2, p.Q)
	if !ok || len(both) != 2 {
		return Cipher{}, false
	}
	return Cipher{Bound: bound, C0: both[0], C1: both[1]}, true
}

// Write is the text of a ciphertext.
func Write(c Cipher) string {
	out := "C" + text.Write([]int{c.Bound}, head-1)
	out += text.Write(c.C0, 4)
	out += text.Write(c.C1, 4)
	return out
}

// Encrypt hides values under the key s.
func Encrypt(p api.Params, s []int, values []int, draws string) Cipher {
	m := lift(p, values)
	c0, c1 := hide(p, s, m, draws, 0)
	return Cipher{Bound: api.Spread, C0: c0, C1: c1}
}

// Decrypt gives the values that a ciphertext hides under the key s.
func Decrypt(p api.Params, s []int, c Cipher) []int {
	if p.T < 1 || p.Q < 1 {
		return nil
	}
	cs := ring.Mul(c.C1, s, p.Q)
	v := ring.Add(c.C0, cs, p.Q)
	var m []int
	for _, x := range v {
		m = append(m, (2*p.T*x+p.Q)/(2*p.Q)%p.T)
	}
	return slot.Decode(p, m)
}

// Add gives the ciphertext of a sum; it answers false if the bound that comes
// out does not fit.
func Add(p api.Params, a Cipher, b Cipher) (Cipher, bool) {
	bound := a.Bound + b.Bound + param.Rest(p)
	if !param.Fits(p, bound) {
		return Cipher{}, false
	}
	c0 := ring.Add(a.C0, b.C0, p.Q)
	c1 := ring.Add(a.C1, b.C1, p.Q)
	return Cipher{Bound: bound, C0: c0, C1: c1}, true
}

// AddPlain adds values to what a ciphertext hides; it answers false if the
// bound that comes out does not fit.
func AddPlain(p api.Params, c Cipher, values []int) (Cipher, bool) {
	bound := c.Bound + param.Rest(p)
	if !param.Fits(p, bound) {
		return Cipher{}, false
	}
	m := lift(p, values)
	c0 := ring.Add(c.C0, m, p.Q)
	c1 := append([]int{}, c.C1...)
	return Cipher{Bound: bound, C0: c0, C1: c1}, true
}

// MulPlain multiplies what a ciphertext hides by values; it answers false if
// the bound that comes out does not fit.
func MulPlain(p api.Params, c Cipher, values []int) (Cipher, bool) {
	w := centred(p, values)
	bound := size(w) * (c.Bound + param.Rest(p))
	if !param.Fits(p, bound) {
		return Cipher{}, false
	}
	c0 := ring.Mul(c.C0, w, p.Q)
	c1 := ring.Mul(c.C1, w, p.Q)
	return Cipher{Bound: bound, C0: c0, C1: c1}, true
}

// hide lays a drawn pair a, e over a polynomial x modulo Q: it gives
// e + x - a s, and a. Which of the draws' pairs it is, draw.Pair is told.
func hide(p api.Params, s []int, x []int, draws string, which int) ([]int, []int) {
	a, e := draw.Pair(p, draws, which)
	as := ring.Mul(a, s, p.Q)
	c0 := ring.Add(e, x, p.Q)
	c0 = ring.Sub(c0, as, p.Q)
	return c0, a
}

// lift is DELTA times the polynomial with these slots: from modulo T it comes
// to modulo Q.
func lift(p api.Params, values []int) []int {
	m := slot.Encode(p, values)
	return ring.Scale(param.Delta(p), m, p.Q)
}

// centred is the polynomial with these slots, its coefficients centred: the
// smaller they are, the less a product's bound grows.
func centred(p api.Params, values []int) []int {
	var w []int
	for _, v := range slot.Encode(p, values) {
		w = append(w, ring.Centre(v, p.T))
	}
	return w
}

// size is the sum of what coefficients are without their signs.
func size(w []int) int {
	sum := 0
	for _, v := range w {
		if v < 0 {
			v = -v
		}
		sum += v
	}
	return sum
}

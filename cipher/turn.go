package cipher

import (
	"hush/api"
	"hush/param"
	"hush/ring"
	"hush/text"
)

// Pair is a pair of polynomials of a turning key, which has one for each digit.
type Pair struct {
	K0 []int
	K1 []int
}

// ReadTurnKey gives the turning key that a text is; it answers false if it is
// none.
func ReadTurnKey(p api.Params, s string) ([]Pair, bool) {
	if len(s) < 1 || s[0] != 'R' {
		return nil, false
	}
	lists, ok := text.Lists(s[1:], 4, p.N, 2*param.Digits(p), p.Q)
	if !ok {
		return nil, false
	}
	var turn []Pair
	for i := 0; i < len(lists)-1; i += 2 {
		turn = append(turn, Pair{K0: lists[i], K1: lists[i+1]})
	}
	return turn, true
}

// WriteTurnKey is the text of a turning key.
func WriteTurnKey(turn []Pair) string {
	out := "R"
	for _, pair := range turn {
		out += text.Write(pair.K0, 4)
		out += text.Write(pair.K1, 4)
	}
	return out
}

// TurnKey makes the turning key for ciphertexts under the key s. Its pairs hide
// the turned s under s itself, times what each digit is worth: by them what is
// under the turned s comes back to s.
func TurnKey(p api.Params, s []int, draws string) []Pair {
	x := ring.Turn(s, p.Q)
	count := param.Digits(p)
	var turn []Pair
	for i := 0; i < count; i++ {
		k0, k1 := hide(p, s, x, draws, i)
		turn = append(turn, Pair{K0: k0, K1: k1})
		x = ring.Scale(param.Base(p), x, p.Q)
	}
	return turn
}

// Turn puts each slot in the place of the one ahead of it in its row, by the
// turning key; it answers false if the bound that comes out does not fit.
func Turn(p api.Params, c Cipher, turn []Pair) (Cipher, bool) {
	bound := c.Bound + param.Rest(p) + turnNoise(p)
	if !param.Fits(p, bound) {
		return Cipher{}, false
	}
	c0 := ring.Turn(c.C0, p.Q)
	c1 := make([]int, len(c0))
	rest := ring.Turn(c.C1, p.Q)
	for _, pair := range turn {
		low, high := split(rest, param.Base(p))
		c0 = addProduct(c0, low, pair.K0, p.Q)
		c1 = addProduct(c1, low, pair.K1, p.Q)
		rest = high
	}
	return Cipher{Bound: bound, C0: c0, C1: c1}, true
}

// turnNoise is the most that a turning key adds to each coefficient: of every
// pair, N products of a digit and a drawn number.
func turnNoise(p api.Params) int {
	return param.Digits(p) * p.N * (param.Base(p) - 1) * api.Spread
}

// split gives the lowest digits of coefficients, and what is left of them
// behind it.
func split(a []int, base int) ([]int, []int) {
	if base < 1 {
		return nil, nil
	}
	var low []int
	var high []int
	for _, v := range a {
		low = append(low, v%base)
		high = append(high, v/base)
	}
	return low, high
}

// addProduct is sum and a times b.
func addProduct(sum []int, a []int, b []int, q int) []int {
	product := ring.Mul(a, b, q)
	return ring.Add(sum, product, q)
}

// Package draw takes what a call wants out of its draws. Behind their end there
// are noughts as many as are wanted.
package draw

import "hush/api"

// Byte is the i-th byte of the draws.
func Byte(draws string, i int) int {
	if i < 0 || i >= len(draws) {
		return 0
	}
	return int(draws[i])
}

// Pair gives the polynomials a and e of a drawn pair; which is 0 for the one
// that the draws begin with, 1 for the next one. The coefficients of a are
// below Q, those of e from -Spread to Spread.
func Pair(p api.Params, draws string, which int) ([]int, []int) {
	if p.Q < 1 {
		return nil, nil
	}
	start := 5 * p.N * which
	var a []int
	var e []int
	for i := 0; i < p.N; i++ {
		v := number(draws, start+4*i, 4)
		a = append(a, v%p.Q)
		b := Byte(draws, start+4*p.N+i)
		e = append(e, b%(2*api.Spread+1)-api.Spread)
	}
	return a, e
}

// Mask gives the numbers below T of a drawn mask.
func Mask(p api.Params, draws string) []int {
	if p.T < 1 {
		return nil
	}
	var mask []int
	for i := 0; i < p.N; i++ {
		v := number(draws, 2*i, 2)
		mask = append(mask, v%p.T)
	}
	return mask
}

// number is the one that width bytes of the draws make, beginning at a place.
func number(draws string, place int, width int) int {
	v := 0
	for i := 0; i < width; i++ {
		b := Byte(draws, place+i)
		v = v<<8 | b
	}
	return v
}

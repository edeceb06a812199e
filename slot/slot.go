// Package slot goes from the coefficients of a polynomial modulo T to its
// slots, and back. The parameters it is handed are good, the numbers below T.
package slot

import "hush/api"

// Decode gives the slots of a polynomial: what it is at the points.
func Decode(p api.Params, poly []int) []int {
	var slots []int
	for _, x := range points(p) {
		v := valueAt(poly, x, p.T)
		slots = append(slots, v)
	}
	return slots
}

// Encode gives the polynomial with these slots, of which there are N.
func Encode(p api.Params, slots []int) []int {
	at := points(p)
	var poly []int
	for i := 0; i < p.N; i++ {
		c := coefficient(p, slots, at, i)
		poly = append(poly, c)
	}
	return poly
}

// coefficient is the i-th one of the polynomial with these slots.
//
// The points are the N roots of x^N + 1. Summed over all of them, x^k is N if
// k is 0, and 0 for every other k between -N and N. So the coefficient is, over
// N, the sum of the slots, each times its point to the power -i; and as x^(2N)
// is 1, that power is the one with 2N - i.
func coefficient(p api.Params, slots []int, at []int, i int) int {
	if p.T < 1 || len(slots) != len(at) {
		return 0
	}
	sum := 0
	for k, x := range at {
		w := power(x, 2*p.N-i, p.T)
		sum = (sum + slots[k]*w) % p.T
	}
	overN := inverse(p.N, p.T)
	return sum * overN % p.T
}

// points gives the point of each slot, row 0 first.
func points(p api.Params) []int {
	row := firstRow(p)
	var list []int
	list = append(list, row...)
	for _, x := range row {
		over := inverse(x, p.T)
		list = append(list, over)
	}
	return list
}

// firstRow gives the points of row 0: each is the cube of the one ahead of it,
// as 3^(j + 1) is 3 times 3^j.
func firstRow(p api.Params) []int {
	var row []int
	x := leastRoot(p.N, p.T)
	for j := 0; j < p.N/2; j++ {
		row = append(row, x)
		x = power(x, 3, p.T)
	}
	return row
}

// leastRoot is the least z with z^n = -1 modulo t; there is one, as t is a
// prime that leaves 1 by 2n.
func leastRoot(n int, t int) int {
	for z := 1; z < t; z++ {
		if power(z, n, t) == t-1 {
			return z
		}
	}
	return 0
}

// inverse is one over x modulo the prime t, by Fermat: x^(t - 1) is 1.
func inverse(x int, t int) int {
	return power(x, t-2, t)
}

// power squares its way up, so that great exponents cost little.
func power(x int, exponent int, t int) int {
	if t < 1 {
		return 0
	}
	result := 1
	for ; exponent > 0; exponent /= 2 {
		if exponent%2 == 1 {
			result = result * x % t
		}
		x = x * x % t
	}
	return result
}

// valueAt is what a polynomial is at x modulo t, by Horner's rule.
func valueAt(poly []int, x int, t int) int {
	if t < 1 {
		return 0
	}
	v := 0
	for i := len(poly) - 1; i >= 0; i-- {
		v = (v*x + poly[i]) % t
	}
	return v
}

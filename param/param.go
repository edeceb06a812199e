// Package param tells which parameters are good, what follows from them, and
// which bounds fit them.
package param

import "hush/api"

// Good tells whether parameters are good. All packages but hush rely on it:
// what they are handed has been found good.
func Good(p api.Params) bool {
	if p.N != 4 && p.N != 8 && p.N != 16 {
		return false
	}
	if p.T > api.MaxT || p.T%(2*p.N) != 1 || !isPrime(p.T) {
		return false
	}
	if p.Q < 2 || p.Q > api.MaxQ {
		return false
	}
	if p.B < 1 || p.B > api.MaxB {
		return false
	}
	return Fits(p, api.Spread)
}

// Fits tells whether a ciphertext with this bound is still opened rightly.
func Fits(p api.Params, bound int) bool {
	// A bound of Q or more never fits, and the product below could overflow.
	if p.T < 1 || bound >= p.Q {
		return false
	}
	return 2*(p.T*bound+Rest(p)*(p.T-1)) < p.Q
}

// Rest is R, what Q leaves by T.
func Rest(p api.Params) int {
	if p.T < 1 {
		return 0
	}
	return p.Q % p.T
}

// Delta is how many times T goes into Q.
func Delta(p api.Params) int {
	if p.T < 1 {
		return 0
	}
	return p.Q / p.T
}

// Base is 2^B: a digit is below it.
func Base(p api.Params) int {
	if p.B < 1 || p.B > api.MaxB {
		return 0
	}
	return 1 << p.B
}

// Digits is L, how many digits the coefficients below Q have: as many as the
// greatest of them.
func Digits(p api.Params) int {
	base := Base(p)
	if base < 2 {
		return 0
	}
	count := 0
	for v := p.Q - 1; v > 0; v /= base {
		count++
	}
	return count
}

// isPrime compares d with n/d, as d*d could overflow.
func isPrime(n int) bool {
	if n < 2 {
		return false
	}
	for d := 2; d <= n/d; d++ {
		if n%d == 0 {
			return false
		}
	}
	return true
}

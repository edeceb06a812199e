package hush_test

import "hush/api"

// doc: the parameters of the document's examples.
var doc = api.Params{N: 4, T: 17, Q: 1000003, B: 4}

const (
	leastInt    = -1 << 63
	greatestInt = 1<<63 - 1
)

// numbers: a text of numbers, two bytes each.
func numbers(l ...int) string {
	var s []byte
	for _, v := range l {
		s = append(s, byte(v>>8), byte(v))
	}
	return string(s)
}

// long: a text of numbers, four bytes each.
func long(l ...int) string {
	s := ""
	for _, v := range l {
		s += numbers(v>>16, v&65535)
	}
	return s
}

// hidden: a ciphertext as bytes.
func hidden(bound int, c ...int) string {
	return "C" + string([]byte{byte(bound >> 32)}) + long(bound) + long(c...)
}

// empty: a ciphertext with this bound, all else 0.
func empty(p api.Params, bound int) string {
	return hidden(bound, make([]int, 2*p.N)...)
}

// mixedParams: parameters of all kinds: R is 0 or T - 1, Q as small or as great
// as can be, each N.
func mixedParams() []api.Params {
	return []api.Params{
		doc,
		{N: 4, T: 17, Q: 85, B: 1},
		{N: 4, T: 17, Q: 400, B: 4},
		{N: 4, T: 17, Q: 17*60000 + 16, B: 2},
		{N: 4, T: 1009, Q: 1<<30 - 1, B: 8},
		{N: 8, T: 17, Q: 17 << 20, B: 3},
		{N: 8, T: 1009, Q: 1009*1064163 + 1008, B: 8},
		{N: 16, T: 97, Q: 1 << 29, B: 1},
		{N: 16, T: 929, Q: 1<<30 - 1, B: 5},
	}
}

// netParams: parameters with room for turning and a matrix.
func netParams() []api.Params {
	return []api.Params{
		doc,
		{N: 4, T: 17, Q: 1<<30 - 35, B: 2},
		{N: 4, T: 41, Q: 41<<24 + 40, B: 8},
		{N: 8, T: 17, Q: 17 << 20, B: 3},
		{N: 8, T: 17, Q: 1<<30 - 1, B: 1},
		{N: 8, T: 97, Q: 1 << 30 / 2, B: 4},
		{N: 16, T: 97, Q: 1<<30 - 1, B: 1},
		{N: 16, T: 97, Q: 97<<23 + 1, B: 5},
		{N: 16, T: 193, Q: 1 << 29, B: 2},
	}
}

// greatest: the greatest bound that fits, by trying them down from Q.
func greatest(p api.Params) int {
	bound := p.Q/2/p.T + 1
	for 2*(p.T*bound+p.Q%p.T*(p.T-1)) >= p.Q {
		bound--
	}
	return bound
}

// primes: the primes up to a limit, by Eratosthenes' sieve.
func primes(limit int) []int {
	crossed := make([]bool, limit+1)
	var l []int
	for n := 2; n <= limit; n++ {
		if crossed[n] {
			continue
		}
		l = append(l, n)
		for m := 2 * n; m <= limit; m += n {
			crossed[m] = true
		}
	}
	return l
}

// allGood: parameters with every N and every T that go together.
func allGood() []api.Params {
	var l []api.Params
	for _, n := range []int{4, 8, 16} {
		for _, t := range primes(1021) {
			if t%(2*n) == 1 {
				l = append(l, api.Params{N: n, T: t, Q: 1<<30 - 1, B: 8})
			}
		}
	}
	return l
}

// notGood: parameters each of which is wrong in one way.
func notGood() []api.Params {
	return []api.Params{
		{},
		{N: 5, T: 17, Q: 1000003, B: 4},
		{N: 32, T: 193, Q: 1 << 29, B: 4},
		{N: -4, T: 17, Q: 1000003, B: 4},
		{N: leastInt, T: 17, Q: 1000003, B: 4},
		{N: greatestInt, T: 17, Q: 1000003, B: 4},
		{N: 8, T: 19, Q: 1000003, B: 4},
		{N: 4, T: 25, Q: 1000003, B: 4},
		{N: 4, T: 0, Q: 1000003, B: 4},
		{N: 4, T: leastInt, Q: 1000003, B: 4},
		{N: 4, T: greatestInt, Q: 1000003, B: 4},
		{N: 4, T: 17, Q: 300, B: 4},
		{N: 4, T: 17, Q: 0, B: 4},
		{N: 4, T: 17, Q: leastInt, B: 4},
		{N: 4, T: 17, Q: greatestInt, B: 4},
		{N: 4, T: 17, Q: 1000003, B: 0},
		{N: 4, T: 17, Q: 1000003, B: 9},
		{N: 4, T: 17, Q: 1000003, B: leastInt},
		{N: 4, T: 17, Q: 1000003, B: greatestInt},
	}
}

package hush_test

import (
	"math/big"
	"math/rand"
	"testing"

	"hush/api"
	"hush/hush"
)

// The document's words on polynomials, in numbers of any length.

// slowTimes multiplies two polynomials, then lays x^N down to -1.
func slowTimes(a []int, b []int) []*big.Int {
	n := len(a)
	whole := make([]*big.Int, 2*n)
	for i := range whole {
		whole[i] = new(big.Int)
	}
	for i, v := range a {
		for j, w := range b {
			term := new(big.Int).Mul(big.NewInt(int64(v)), big.NewInt(int64(w)))
			whole[i+j].Add(whole[i+j], term)
		}
	}
	for i := 0; i < n; i++ {
		whole[i].Sub(whole[i], whole[i+n])
	}
	return whole[:n]
}

// slowModulo: from 0 to q - 1 (big's Mod is never below 0).
func slowModulo(v *big.Int, q int) int {
	return int(new(big.Int).Mod(v, big.NewInt(int64(q))).Int64())
}

// slowKey: the polynomial of a key.
func slowKey(key string) []int {
	var s []int
	for _, b := range []byte(key[1:]) {
		s = append(s, int(b)-1)
	}
	return s
}

// read: the numbers of a text, of width bytes each.
func read(s string, width int) []int {
	var l []int
	for ; len(s) > 0; s = s[width:] {
		v := new(big.Int).SetBytes([]byte(s[:width]))
		l = append(l, int(v.Int64()))
	}
	return l
}

// encoded: the coefficients of the polynomial with these slots.
func encoded(t *testing.T, p api.Params, values []int) []int {
	t.Helper()
	poly, e := hush.Encode(p, numbers(values...))
	if e != api.OK {
		t.Fatalf("Encode(%+v, %v): %d", p, values, e)
	}
	return read(poly, 2)
}

// slowEncrypt: c1 = a, c0 = e + DELTA m - a s.
func slowEncrypt(p api.Params, key string, m []int, draws string) string {
	draws += string(make([]byte, 5*p.N))
	a := read(draws[:4*p.N], 4)
	for i := range a {
		a[i] %= p.Q
	}
	as := slowTimes(a, slowKey(key))
	c0 := make([]int, p.N)
	for i := range c0 {
		v := big.NewInt(int64(draws[4*p.N+i]%5) - 2 + int64(p.Q/p.T*m[i]))
		c0[i] = slowModulo(v.Sub(v, as[i]), p.Q)
	}
	return hidden(2, append(c0, a...)...)
}

// slowDecrypt: the slots of (2 T v + Q) over 2Q, with v = c0 + c1 s.
func slowDecrypt(p api.Params, key string, c []int) []int {
	v := slowTimes(c[p.N:], slowKey(key))
	m := make([]int, p.N)
	for i := range m {
		x := slowModulo(v[i].Add(v[i], big.NewInt(int64(c[i]))), p.Q)
		m[i] = (2*p.T*x + p.Q) / (2 * p.Q) % p.T
	}
	return slowDecode(p, slowPoints(p), m)
}

// below: n numbers from 0 to limit - 1, or all of them the least or the greatest.
func below(r *rand.Rand, n int, limit int) []int {
	l := make([]int, n)
	kind := r.Intn(8)
	for i := range l {
		switch kind {
		case 0:
			l[i] = 0
		case 1:
			l[i] = limit - 1
		default:
			l[i] = r.Intn(limit)
		}
	}
	return l
}

// someKey: any key, or one with all coefficients the same.
func someKey(r *rand.Rand, p api.Params) string {
	key := []byte("K")
	for _, v := range below(r, p.N, 3) {
		key = append(key, byte(v))
	}
	return string(key)
}

// someDraws: any bytes, often too few or more than enough.
func someDraws(r *rand.Rand, p api.Params) string {
	var draws []byte
	for _, v := range below(r, r.Intn(7*p.N), 256) {
		draws = append(draws, byte(v))
	}
	return string(draws)
}

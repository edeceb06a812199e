package hush_test

import (
	"math/big"
	"math/rand"
	"testing"

	"hush/api"
	"hush/hush"
)

// The document's words on polynomials, in numbers of any length.

// slowTimes multiplies two polynomials, then lays x^N down to -1.
func slowTimes(a []int, b []int) []*big.Int {
	n := len(a)
	whole := make([]*big.Int, 2*n)
	for i := range whole {
		whole[i] = new(big.Int)
	}
	for i, v := range a {
		for j, w := range b {
			term := new(big.Int).Mul(big.NewInt(int64(v)), big.NewInt(int64(w)))
			whole[i+j].Add(whole[i+j], term)
		}
	}
	for i := 0; i < n; i++ {
		whole[i].Sub(whole[i], whole[i+n])
	}
	return whole[:n]
}

// slowModulo: from 0 to q - 1 (big's Mod is never below 0).
func slowModulo(v *big.Int, q int) int {
	return int(new(big.Int).Mod(v, big.NewInt(int64(q))).Int64())
}

// slowKey: the polynomial of a key.
func slowKey(key string) []int {
	var s []int
	for _, b := range []byte(key[1:]) {
		s = append(s, int(b)-1)
	}
	return s
}

// read: the numbers of a text, of width bytes each.
func read(s string, width int) []int {
	var l []int
	for ; len(s) > 0; s = s[width:] {
		v := new(big.Int).SetBytes([]byte(s[:width]))
		l = append(l, int(v.Int64()))
	}
	return l
}

// encoded: the coefficients of the polynomial with these slots.
func encoded(t *testing.T, p api.Params, values []int) []int {
	t.Helper()
	poly, e := hush.Encode(p, numbers(values...))
	if e != api.OK {
		t.Fatalf("Encode(%+v, %v): %d", p, values, e)
	}
	return read(poly, 2)
}

// slowHide: e + x - a s, and a, of the drawn pair ahead of which there are
// others.
func slowHide(p api.Params, key string, x []*big.Int, draws string, others int) []int {
	draws += string(make([]byte, 5*p.N*(others+1)))
	draws = draws[5*p.N*others:]
	a := read(draws[:4*p.N], 4)
	for i := range a {
		a[i] %= p.Q
	}
	as := slowTimes(a, slowKey(key))
	c := make([]int, p.N)
	for i := range c {
		v := big.NewInt(int64(draws[4*p.N+i]%5) - 2)
		v.Add(v, x[i])
		c[i] = slowModulo(v.Sub(v, as[i]), p.Q)
	}
	return append(c, a...)
}

// slowEncrypt: c1 = a, c0 = e + DELTA m - a s.
func slowEncrypt(p api.Params, key string, m []int, draws string) string {
	var x []*big.Int
	for _, v := range m {
		x = append(x, big.NewInt(int64(p.Q/p.T*v)))
	}
	return hidden(2, slowHide(p, key, x, draws, 0)...)
}

// slowDigits: the least L with 2^(B times L) at least Q.
func slowDigits(p api.Params) int {
	l := 0
	for new(big.Int).Lsh(big.NewInt(1), uint(p.B*l)).Cmp(big.NewInt(int64(p.Q))) < 0 {
		l++
	}
	return l
}

// slowCubed: with x^3 in the place of x, then x^N laid down to -1, once for
// each N that the exponent has.
func slowCubed(a []int) []int {
	out := make([]int, len(a))
	for i, v := range a {
		if 3*i/len(a)%2 == 1 {
			v = -v
		}
		out[3*i%len(a)] += v
	}
	return out
}

// slowTurnKey: k1 = a, k0 = e + 2^(B i) s' - a s for each digit.
func slowTurnKey(p api.Params, key string, draws string) string {
	s := "R"
	for i := range slowDigits(p) {
		var x []*big.Int
		for _, v := range slowCubed(slowKey(key)) {
			x = append(x, new(big.Int).Lsh(big.NewInt(int64(v)), uint(p.B*i)))
		}
		s += long(slowHide(p, key, x, draws, i)...)
	}
	return s
}

// slowTurn: c0' and the sum of all d_i times k0, the sum of all d_i times k1.
func slowTurn(p api.Params, c []int, turn []int) []int {
	var sums []*big.Int
	for _, v := range append(slowCubed(c[:p.N]), make([]int, p.N)...) {
		sums = append(sums, big.NewInt(int64(v)))
	}
	for i := range slowDigits(p) {
		var digits []int
		for _, v := range slowCubed(c[p.N:]) {
			digits = append(digits, slowModulo(big.NewInt(int64(v)), p.Q)>>(p.B*i)%(1<<p.B))
		}
		pair := turn[2*p.N*i:]
		k0, k1 := slowTimes(digits, pair[:p.N]), slowTimes(digits, pair[p.N:2*p.N])
		for j, v := range append(k0, k1...) {
			sums[j].Add(sums[j], v)
		}
	}
	var out []int
	for _, v := range sums {
		out = append(out, slowModulo(v, p.Q))
	}
	return out
}

// slowDecrypt: the slots of (2 T v + Q) over 2Q, with v = c0 + c1 s.
func slowDecrypt(p api.Params, key string, c []int) []int {
	v := slowTimes(c[p.N:], slowKey(key))
	m := make([]int, p.N)
	for i := range m {
		x := slowModulo(v[i].Add(v[i], big.NewInt(int64(c[i]))), p.Q)
		m[i] = (2*p.T*x + p.Q) / (2 * p.Q) % p.T
	}
	return slowDecode(p, slowPoints(p), m)
}

// below: n numbers from 0 to limit - 1, or all of them the least or the greatest.
func below(r *rand.Rand, n int, limit int) []int {
	l := make([]int, n)
	kind := r.Intn(8)
	for i := range l {
		switch kind {
		case 0:
			l[i] = 0
		case 1:
			l[i] = limit - 1
		default:
			l[i] = r.Intn(limit)
		}
	}
	return l
}

// someKey: any key, or one with all coefficients the same.
func someKey(r *rand.Rand, p api.Params) string {
	key := []byte("K")
	for _, v := range below(r, p.N, 3) {
		key = append(key, byte(v))
	}
	return string(key)
}

// someDraws: any bytes for one pair, often too few or more than enough.
func someDraws(r *rand.Rand, p api.Params) string {
	return drawsFor(r, p, 1)
}

// drawsFor: any bytes for some pairs, often too few or more than enough.
func drawsFor(r *rand.Rand, p api.Params, pairs int) string {
	var draws []byte
	for _, v := range below(r, r.Intn(7*p.N*pairs), 256) {
		draws = append(draws, byte(v))
	}
	return string(draws)
}

package hush_test

import (
	"math/rand"
	"testing"

	"hush/api"
	"hush/hush"
)

// blank: a layer of this kind whose matrix and bias are 0.
func blank(p api.Params, bends int, shift int) string {
	return layer(bends, shift, make([]int, p.N/2*p.N/2+p.N)...)
}

// slowBend: centred, bent, over 2 to the power of the shift by counting down to
// the next whole number, less the mask.
func slowBend(p api.Params, bends int, shift int, sum int, mask int) int {
	v := sum % p.T
	if v > (p.T-1)/2 {
		v -= p.T
	}
	if bends == 1 {
		v = max(v, 0)
	}
	whole := p.T
	for whole<<shift > v {
		whole--
	}
	return (whole - mask + 2*p.T) % p.T
}

func TestP11Example(t *testing.T) {
	zero := numbers(0, 0, 0, 0)
	s, e := hush.Bend(doc, blank(doc, 0, 1), numbers(16, 0, 3, 9), zero, zero)
	wantText(t, "Bend without bending", s, e, numbers(16, 0, 1, 13))
	s, e = hush.Bend(doc, blank(doc, 1, 1), numbers(16, 0, 3, 9), zero, zero)
	wantText(t, "Bend", s, e, numbers(0, 0, 1, 0))
}

// T 1009: the greatest centred number is 504, the least one -504, which is 505;
// 1 and -1 are at both sides of 0. Worked out by hand for each shift.
func TestP11Edges(t *testing.T) {
	p := api.Params{N: 8, T: 1009, Q: 1<<30 - 1, B: 8}
	values, zero := numbers(504, 505, 0, 1, 1008, 503, 506, 2), numbers(make([]int, 8)...)
	for shift, want := range [][]int{
		{504, -504, 0, 1, -1, 503, -503, 2},
		{252, -252, 0, 0, -1, 251, -252, 1},
		{126, -126, 0, 0, -1, 125, -126, 0},
		{63, -63, 0, 0, -1, 62, -63, 0},
		{31, -32, 0, 0, -1, 31, -32, 0},
		{15, -16, 0, 0, -1, 15, -16, 0},
		{7, -8, 0, 0, -1, 7, -8, 0},
		{3, -4, 0, 0, -1, 3, -4, 0},
	} {
		var straight, bent []int
		for _, v := range want {
			straight = append(straight, (v+1009)%1009)
			bent = append(bent, max(v, 0))
		}
		s, e := hush.Bend(p, blank(p, 0, shift), values, zero, zero)
		wantText(t, "without bending", s, e, numbers(straight...))
		s, e = hush.Bend(p, blank(p, 1, shift), values, zero, zero)
		wantText(t, "bending", s, e, numbers(bent...))
		// Which of the shares it is does not matter.
		s, e = hush.Bend(p, blank(p, 0, shift), zero, values, zero)
		wantText(t, "the other share", s, e, numbers(straight...))
	}
}

// The shares together, modulo T: the mask is taken off last.
func TestP11SharesAndMask(t *testing.T) {
	for _, c := range []struct {
		bends, shift     int
		a, b, mask, want []int
	}{
		{0, 0, []int{16, 16, 1, 8}, []int{1, 16, 0, 1}, []int{0, 0, 2, 0}, []int{0, 15, 16, 9}},
		{1, 0, []int{16, 16, 1, 8}, []int{1, 16, 0, 1}, []int{1, 16, 2, 0}, []int{16, 1, 16, 0}},
		{1, 1, []int{4, 4, 12, 12}, []int{4, 5, 12, 14}, []int{16, 16, 0, 1}, []int{5, 1, 3, 16}},
		{0, 7, []int{4, 4, 12, 12}, []int{4, 5, 12, 14}, []int{16, 16, 0, 1}, []int{1, 0, 0, 15}},
	} {
		s, e := hush.Bend(doc, blank(doc, c.bends, c.shift), numbers(c.a...), numbers(c.b...), numbers(c.mask...))
		wantText(t, "Bend", s, e, numbers(c.want...))
	}
}

// Every number below T, in any two shares, less any mask. The matrix and the
// bias have no part in it.
func TestP11EveryNumber(t *testing.T) {
	r := rand.New(rand.NewSource(18))
	for _, p := range mixedParams() {
		for kind := range 16 {
			bends, shift := kind%2, kind/2
			for first := 0; first < p.T; first += p.N {
				a, b, mask, want := below(r, p.N, p.T), make([]int, p.N), below(r, p.N, p.T), make([]int, p.N)
				for i := range b {
					b[i] = (first + i + p.T - a[i]) % p.T
					want[i] = slowBend(p, bends, shift, first+i, mask[i])
				}
				l := layer(bends, shift, append(someMatrix(r, p), below(r, p.N, p.T)...)...)
				s, e := hush.Bend(p, l, numbers(a...), numbers(b...), numbers(mask...))
				wantText(t, "Bend", s, e, numbers(want...))
			}
		}
	}
}

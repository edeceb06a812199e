package hush_test

import (
	"math/rand"
	"testing"

	"hush/api"
	"hush/hush"
)

// layer: one as bytes; the matrix by rows, then the bias.
func layer(bends int, shift int, l ...int) string {
	return "L" + string([]byte{byte(bends), byte(shift)}) + numbers(l...)
}

// someMatrix: by rows; full, sparse, or the same down each diagonal (then the
// bounds grow least).
func someMatrix(r *rand.Rand, p api.Params) []int {
	d := p.N / 2
	matrix := below(r, d*d, p.T)
	first := below(r, d, 3)
	kind := r.Intn(4)
	for i := range matrix {
		switch {
		case kind == 0 && r.Intn(d*d) > 0:
			matrix[i] = 0
		case kind == 1:
			matrix[i] = first[(i%d-i/d+d)%d]
		case kind == 2:
			matrix[i] = first[(i%d-i/d+d)%d] * (p.T - 1) % p.T
		}
	}
	return matrix
}

// slowMatrix: by slot, the matrix times the values' row.
func slowMatrix(p api.Params, matrix []int, values []int) []int {
	d := p.N / 2
	out := make([]int, p.N)
	for i := range out {
		for k := range d {
			out[i] += matrix[i%d*d+k] * values[i/d*d+k]
		}
		out[i] %= p.T
	}
	return out
}

// open: the matrix times the share, and the bias, less the mask.
func open(p api.Params, matrix []int, bias []int, share []int, mask []int) []int {
	l := bySlot(p, slowMatrix(p, matrix, share), bias, false)
	for i := range l {
		l[i] = (l[i] + p.T - mask[i]) % p.T
	}
	return l
}

// diagonal: slot j of each row is the matrix's number in row j, column j + i.
func diagonal(p api.Params, matrix []int, i int) []int {
	d := p.N / 2
	values := make([]int, p.N)
	for k := range values {
		j := k % d
		values[k] = matrix[j*d+(j+i)%d]
	}
	return values
}

// stepByStep makes the calls that P10 names, in its order, as long as they are
// OK.
func stepByStep(p api.Params, matrix []int, c string, values []int, turn string) (string, api.Errno) {
	sum, e := hush.MulPlain(p, c, numbers(diagonal(p, matrix, 0)...))
	for i := 1; i < p.N/2 && e == api.OK; i++ {
		if c, e = hush.Turn(p, c, turn); e != api.OK {
			return "", e
		}
		term, e := hush.MulPlain(p, c, numbers(diagonal(p, matrix, i)...))
		if e != api.OK {
			return "", e
		}
		if sum, e = hush.Add(p, sum, term); e != api.OK {
			return "", e
		}
	}
	if e != api.OK {
		return "", e
	}
	return hush.AddPlain(p, sum, numbers(values...))
}

// The matrix 2 3, -1 5, worked out by hand.
func TestP10ByHand(t *testing.T) {
	p := api.Params{N: 4, T: 17, Q: 1<<30 - 35, B: 2}
	turn, _ := hush.TurnKey(p, docKey, "draws for turning")
	c, _ := hush.Encrypt(p, docKey, numbers(1, 2, 3, 4), "draws for hiding")
	l := layer(1, 7, 2, 3, 16, 5, 1, 2, 3, 4)
	for _, k := range []struct{ share, mask, want string }{
		// 2*1 + 3*2, -1 + 5*2, 2*3 + 3*4, -3 + 5*4, and the bias.
		{numbers(0, 0, 0, 0), numbers(0, 0, 0, 0), numbers(9, 11, 4, 4)},
		{numbers(0, 0, 0, 0), numbers(10, 0, 16, 4), numbers(16, 11, 5, 0)},
		{numbers(1, 0, 0, 0), numbers(0, 0, 0, 0), numbers(11, 10, 4, 4)},
		{numbers(0, 1, 0, 0), numbers(0, 0, 0, 0), numbers(12, 16, 4, 4)},
		{numbers(0, 0, 1, 0), numbers(0, 0, 0, 0), numbers(9, 11, 6, 3)},
		{numbers(0, 0, 0, 1), numbers(0, 0, 0, 0), numbers(9, 11, 7, 9)},
		{numbers(16, 16, 16, 16), numbers(16, 16, 16, 16), numbers(5, 8, 0, 1)},
	} {
		s, e := hush.Linear(p, l, c, k.share, k.mask, turn)
		v, f := hush.Decrypt(p, docKey, s)
		if v != k.want || e != api.OK || f != api.OK {
			t.Errorf("share %x, mask %x: %x (%d, %d), want %x", k.share, k.mask, v, e, f, k.want)
		}
	}
}

// Any ciphertext, any turning key: what comes out is what the calls give one by
// one. Whether the layer bends and its shift have no part in it.
func TestP10StepByStep(t *testing.T) {
	r := rand.New(rand.NewSource(11))
	for _, p := range append(mixedParams(), netParams()...) {
		for range 50 {
			matrix, bias := someMatrix(r, p), below(r, p.N, p.T)
			share, mask := below(r, p.N, p.T), below(r, p.N, p.T)
			c := hidden(r.Intn(1+greatest(p)>>r.Intn(31)), append(below(r, p.N, p.Q), below(r, p.N, p.Q)...)...)
			turn := "R" + long(below(r, 2*p.N*slowDigits(p), p.Q)...)
			want, f := stepByStep(p, matrix, c, open(p, matrix, bias, share, mask), turn)
			l := layer(r.Intn(2), r.Intn(8), append(matrix, bias...)...)
			s, e := hush.Linear(p, l, c, numbers(share...), numbers(mask...), turn)
			if s != want || e != f {
				t.Errorf("%+v: Linear = %x, %d, want %x, %d", p, s, e, want, f)
			}
		}
	}
}

// grownBound: the bound that comes out of Linear, or one that does not fit if a
// turned ciphertext's bound does not.
func grownBound(t *testing.T, p api.Params, matrix []int, bound int) int {
	t.Helper()
	rest, d := p.Q%p.T, p.N/2
	sum := 0
	for i := range d {
		size := 0
		for _, v := range encoded(t, p, diagonal(p, matrix, i)) {
			size += min(v, p.T-v)
		}
		sum += size*(bound+i*(rest+turnNoise(p))+rest) + rest
	}
	if last := bound + (d-1)*(rest+turnNoise(p)); last > greatest(p) {
		return last
	}
	return sum
}

// The bounds around the greatest one with which Linear's own still fits.
func TestP10Noise(t *testing.T) {
	r := rand.New(rand.NewSource(12))
	for _, p := range append(mixedParams(), netParams()...) {
		zero := numbers(make([]int, p.N)...)
		turn := "R" + long(make([]int, 2*p.N*slowDigits(p))...)
		for range 30 {
			matrix := someMatrix(r, p)
			least, most := -1, greatest(p)
			for least < most {
				middle := (least + most + 1) / 2
				if grownBound(t, p, matrix, middle) <= greatest(p) {
					least = middle
				} else {
					most = middle - 1
				}
			}
			l := layer(0, 0, append(matrix, make([]int, p.N)...)...)
			for _, bound := range edges(p, least) {
				s, e := hush.Linear(p, l, empty(p, bound), zero, zero, turn)
				wantBound(t, p, "Linear", s, e, grownBound(t, p, matrix, bound))
			}
		}
	}
}

// With T 17 and Q 17 << 20 R is 0, and the greatest bound that fits is 524287;
// each turn adds 9 * 8 * 7 * 2 = 1008. One of the steps alone is too much.
func TestP10NoiseOfEachStep(t *testing.T) {
	p := api.Params{N: 8, T: 17, Q: 17 << 20, B: 3}
	zero := numbers(make([]int, 8)...)
	turn := "R" + long(make([]int, 2*8*9)...)
	// down: a matrix with these numbers down its diagonals.
	down := func(l ...int) string {
		matrix := make([]int, 16)
		for i := range matrix {
			matrix[i] = l[(i%4-i/4+4)%4]
		}
		return layer(0, 0, append(matrix, make([]int, 8)...)...)
	}
	for _, c := range []struct {
		why          string
		layer        string
		bound, grown int
	}{
		{"three turns", down(0, 0, 0, 0), 524287 - 3*1008, 0},
		{"three turns, too much", down(0, 0, 0, 0), 524287 - 3*1008 + 1, -1},
		{"the first term", down(8, 0, 0, 0), 524287 / 8, 524287 / 8 * 8},
		{"the first term, too much", down(8, 0, 0, 0), 524287/8 + 1, -1},
		{"the last term", down(0, 0, 0, 8), 524287/8 - 3*1008, 524287 / 8 * 8},
		{"the last term, too much", down(0, 0, 0, 8), 524287/8 - 3*1008 + 1, -1},
		{"the sum", down(1, 0, 16, 0), (524287 - 2*1008) / 2, 524286},
		{"the sum, too much", down(1, 0, 16, 0), (524287-2*1008)/2 + 1, -1},
	} {
		s, e := hush.Linear(p, c.layer, empty(p, c.bound), zero, zero, turn)
		if c.grown < 0 {
			wantError(t, c.why, s, e, api.ErrNoise)
			continue
		}
		if b, f := hush.Bound(p, s); b != c.grown || e != api.OK || f != api.OK {
			t.Errorf("%s: bound %d (%d, %d), want %d", c.why, b, e, f, c.grown)
		}
	}
}

// Values are hidden, worked on by some layers, and opened.
func TestP15Linear(t *testing.T) {
	r := rand.New(rand.NewSource(17))
	for _, p := range netParams() {
		done := 0
		for range 200 {
			key, values := someKey(r, p), below(r, p.N, p.T)
			matrix, bias := someMatrix(r, p), below(r, p.N, p.T)
			share, mask := below(r, p.N, p.T), below(r, p.N, p.T)
			turn, _ := hush.TurnKey(p, key, drawsFor(r, p, slowDigits(p)))
			c, _ := hush.Encrypt(p, key, numbers(values...), someDraws(r, p))
			if r.Intn(2) == 0 {
				c = noisy(r, p, key, encoded(t, p, values), r.Intn(1+greatest(p)>>r.Intn(31)))
			}
			l := layer(r.Intn(2), r.Intn(8), append(matrix, bias...)...)
			s, e := hush.Linear(p, l, c, numbers(share...), numbers(mask...), turn)
			want := bySlot(p, slowMatrix(p, matrix, values), open(p, matrix, bias, share, mask), false)
			if opened(t, p, key, s, e, want) {
				done++
			}
		}
		if done < 20 {
			t.Errorf("%+v: %d alone were opened", p, done)
		}
	}
}

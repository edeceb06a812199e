// Package layers works out the layers of a net, and nets. The parameters it is
// handed are good, shares, masks and inputs of N numbers below T.
package layers

import (
	"hush/api"
	"hush/cipher"
	"hush/ring"
	"hush/text"
)

// Layer is one of a net: the matrix by rows, and the bias by slot.
type Layer struct {
	Bends  bool
	Shift  int
	Matrix [][]int
	Bias   []int
}

// head is how many bytes there are ahead of the matrix.
const head = 3

// Read gives the layer that a text is; it answers false if it is none.
func Read(p api.Params, s string) (Layer, bool) {
	d := p.N / 2
	middle := head + 2*d*d
	if middle < head || len(s) < middle || s[0] != 'L' {
		return Layer{}, false
	}
	if s[1] > 1 || s[2] > api.MaxShift {
		return Layer{}, false
	}
	matrix, ok := text.Lists(s[head:middle], 2, d, d, p.T)
	if !ok {
		return Layer{}, false
	}
	bias, ok := text.Numbers(s[middle:], 2, p.N, p.T)
	if !ok {
		return Layer{}, false
	}
	return Layer{Bends: s[1] == 1, Shift: int(s[2]), Matrix: matrix, Bias: bias}, true
}

// Linear gives the ciphertext of what the matrix makes of both shares, and the
// bias, less the mask: the client's share is hidden in c, the server's is open.
// It answers false if a bound on the way does not fit.
func Linear(p api.Params, l Layer, c cipher.Cipher, share []int, mask []int, turn []cipher.Pair) (cipher.Cipher, bool) {
	hidden, ok := hiddenTimes(p, l.Matrix, c, turn)
	if !ok {
		return cipher.Cipher{}, false
	}
	values := weighed(p, l, share)
	values = ring.Sub(values, mask, p.T)
	return cipher.AddPlain(p, hidden, values)
}

// Bend gives what a layer makes of both shares together, less the mask: the
// client's next share, with the mask as the server's.
func Bend(p api.Params, l Layer, a []int, b []int, mask []int) []int {
	sum := ring.Add(a, b, p.T)
	var bent []int
	for _, v := range sum {
		centred := ring.Centre(v, p.T)
		bent = append(bent, bendNumber(l, centred))
	}
	return ring.Sub(bent, mask, p.T)
}

// bendNumber is what a layer makes of one number, centred.
func bendNumber(l Layer, v int) int {
	if l.Shift < 0 {
		return 0
	}
	if l.Bends && v < 0 {
		return 0
	}
	// A division would go towards 0, not down, for numbers below 0.
	return v >> l.Shift
}

// weighed is the matrix times each row of some values, and the bias.
func weighed(p api.Params, l Layer, values []int) []int {
	product := times(l.Matrix, values, p.T)
	return ring.Add(product, l.Bias, p.T)
}

// hiddenTimes is the matrix times the rows that a ciphertext hides. Turned i
// times, it has slot j + i in the place of slot j: there the matrix's numbers
// of row j, column j + i belong.
func hiddenTimes(p api.Params, matrix [][]int, c cipher.Cipher, turn []cipher.Pair) (cipher.Cipher, bool) {
	sum, ok := cipher.MulPlain(p, c, diagonal(matrix, 0))
	if !ok {
		return cipher.Cipher{}, false
	}
	for i := 1; i < len(matrix); i++ {
		c, ok = cipher.Turn(p, c, turn)
		if !ok {
			return cipher.Cipher{}, false
		}
		sum, ok = addProduct(p, sum, c, diagonal(matrix, i))
		if !ok {
			return cipher.Cipher{}, false
		}
	}
	return sum, true
}

// addProduct is sum and c times values.
func addProduct(p api.Params, sum cipher.Cipher, c cipher.Cipher, values []int) (cipher.Cipher, bool) {
	term, ok := cipher.MulPlain(p, c, values)
	if !ok {
		return cipher.Cipher{}, false
	}
	return cipher.Add(p, sum, term)
}

// diagonal gives the values whose slot j of each row is the matrix's number in
// row j, column j + i.
func diagonal(matrix [][]int, i int) []int {
	var row []int
	for j, numbers := range matrix {
		k := (j + i) % len(matrix)
		if k < 0 || k >= len(numbers) {
			return nil
		}
		row = append(row, numbers[k])
	}
	values := append([]int{}, row...)
	return append(values, row...)
}

// times is the matrix times each row of some values, modulo t.
func times(matrix [][]int, values []int, t int) []int {
	d := len(matrix)
	if t < 1 || len(values) != 2*d {
		return nil
	}
	var out []int
	for _, row := range [][]int{values[:d], values[d:]} {
		for _, numbers := range matrix {
			v := scalar(numbers, row)
			out = append(out, v%t)
		}
	}
	return out
}

// scalar is the sum of the products of two lists, place by place.
func scalar(a []int, b []int) int {
	if len(a) != len(b) {
		return 0
	}
	sum := 0
	for i, v := range a {
		sum += v * b[i]
	}
	return sum
}

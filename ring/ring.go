// Package ring works on polynomials modulo x^N + 1, as lists of coefficients,
// that of x^0 first. What is handed in may have coefficients below 0; what
// comes out has them from 0 to q - 1. Both sides are of the same length, and
// small enough for the product of two coefficients to be an int.
package ring

// Add is the sum of two polynomials.
func Add(a []int, b []int, q int) []int {
	if len(a) != len(b) {
		return nil
	}
	var sum []int
	for i, v := range a {
		sum = append(sum, modulo(v+b[i], q))
	}
	return sum
}

// Sub is a polynomial less another one.
func Sub(a []int, b []int, q int) []int {
	minus := Scale(-1, b, q)
	return Add(a, minus, q)
}

// Scale is a polynomial times a number.
func Scale(k int, a []int, q int) []int {
	var out []int
	for _, v := range a {
		out = append(out, modulo(k*v, q))
	}
	return out
}

// Mul is the product of two polynomials.
func Mul(a []int, b []int, q int) []int {
	n := len(a)
	if len(b) != n {
		return nil
	}
	out := make([]int, n)
	for i, v := range a {
		for j, w := range b {
			k := i + j
			term := v * w
			// x^N is -1.
			if k >= n {
				k -= n
				term = -term
			}
			out[k] = modulo(out[k]+term, q)
		}
	}
	return out
}

// Turn is a polynomial with x^3 in the place of x.
func Turn(a []int, q int) []int {
	n := len(a)
	out := make([]int, n)
	for i, v := range a {
		k := 3 * i
		// x^N is -1.
		for k >= n {
			k -= n
			v = -v
		}
		out[k] = modulo(out[k]+v, q)
	}
	return out
}

// Centre takes the modulus t off a number below it that is above its half.
func Centre(v int, t int) int {
	if v > (t-1)/2 {
		return v - t
	}
	return v
}

// modulo is from 0 to q - 1 for numbers below 0 too.
func modulo(v int, q int) int {
	if q < 1 {
		return 0
	}
	v %= q
	if v < 0 {
		v += q
	}
	return v
}

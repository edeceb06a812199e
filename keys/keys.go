// Package keys makes keys, and reads them.
package keys

import "hush/draw"

// Make gives the key of n coefficients that these draws make.
func Make(n int, draws string) string {
	out := []byte{'K'}
	for i := 0; i < n; i++ {
		d := draw.Byte(draws, i)
		out = append(out, byte(d%3))
	}
	return string(out)
}

// Read gives the polynomial s of a key of n coefficients; it answers false if
// the text is no such key.
func Read(n int, key string) ([]int, bool) {
	if len(key) < 1 || len(key)-1 != n || key[0] != 'K' {
		return nil, false
	}
	var s []int
	for i := 1; i < len(key); i++ {
		if key[i] > 2 {
			return nil, false
		}
		s = append(s, int(key[i])-1)
	}
	return s, true
}

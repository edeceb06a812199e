// Package keys makes keys.
package keys

import "hush/text"

// Make gives the key of n coefficients that these draws make.
func Make(n int, draws string) string {
	out := []byte{'K'}
	for i := 0; i < n; i++ {
		d := text.Drawn(draws, i)
		out = append(out, byte(d%3))
	}
	return string(out)
}

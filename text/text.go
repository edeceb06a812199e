// Package text reads and writes the numbers that texts are made of.
package text

// Numbers reads a text of just count numbers, two bytes each and all below
// limit; it answers false if the text is anything else.
func Numbers(s string, count int, limit int) ([]int, bool) {
	// The length comes first: a text may be of any length.
	if count < 0 || len(s)%2 != 0 || len(s)/2 != count {
		return nil, false
	}
	var list []int
	for i := 0; i+1 < len(s); i += 2 {
		v := int(s[i])<<8 | int(s[i+1])
		if v >= limit {
			return nil, false
		}
		list = append(list, v)
	}
	return list, true
}

// Write is the text of numbers, two bytes each.
func Write(list []int) string {
	var out []byte
	for _, v := range list {
		out = append(out, byte(v>>8))
		out = append(out, byte(v))
	}
	return string(out)
}

// Drawn is the i-th byte of the draws; behind their end there are noughts.
func Drawn(draws string, i int) int {
	if i < 0 || i >= len(draws) {
		return 0
	}
	return int(draws[i])
}

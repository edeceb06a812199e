// Package text reads and writes the numbers that texts are made of.
package text

// Numbers reads a text of just count numbers, of width bytes each and all
// below limit; it answers false if the text is anything else.
func Numbers(s string, width int, count int, limit int) ([]int, bool) {
	// The length comes first: a text may be of any length.
	if width < 1 || len(s)%width != 0 || len(s)/width != count {
		return nil, false
	}
	var list []int
	for i := 0; i <= len(s)-width; i += width {
		v := Number(s[i : i+width])
		if v >= limit {
			return nil, false
		}
		list = append(list, v)
	}
	return list, true
}

// Lists reads a text of just count lists, one behind the other, each of which
// Numbers reads as size numbers; it answers false if the text is anything else.
func Lists(s string, width int, size int, count int, limit int) ([][]int, bool) {
	step := width * size
	if step < 1 || len(s)%step != 0 || len(s)/step != count {
		return nil, false
	}
	var lists [][]int
	for i := 0; i <= len(s)-step; i += step {
		list, ok := Numbers(s[i:i+step], width, size, limit)
		if !ok {
			return nil, false
		}
		lists = append(lists, list)
	}
	return lists, true
}

// Number is what the bytes of a text are as one number, that of the greatest
// weight first. The texts that are handed in are short enough for an int.
func Number(s string) int {
	v := 0
	for i := 0; i < len(s); i++ {
		v = v<<8 | int(s[i])
	}
	return v
}

// Write is the text of numbers, of width bytes each.
func Write(list []int, width int) string {
	var out []byte
	for _, v := range list {
		for i := width - 1; i >= 0; i-- {
			out = append(out, byte(v>>(8*i)))
		}
	}
	return string(out)
}

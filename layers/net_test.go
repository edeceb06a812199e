package layers

import (
	"slices"
	"strings"
	"testing"
)

// other: the text of another layer, which differs from someText everywhere.
const other = "L\x00\x02" + "\x00\x00\x00\x01\x00\x01\x00\x00" + "\x00\x00\x00\x01\x00\x02\x00\x03"

func TestReadNet(t *testing.T) {
	second, _ := Read(doc, other)
	for _, c := range []struct {
		s   string
		net []Layer
	}{
		{"N\x01" + someText, []Layer{some()}},
		{"N\x02" + someText + other, []Layer{some(), second}},
		{"N\x03" + other + someText + other, []Layer{second, some(), second}},
	} {
		if net, ok := ReadNet(doc, c.s); !ok || !slices.EqualFunc(net, c.net, same) {
			t.Errorf("ReadNet(%x) = %v, %v", c.s, net, ok)
		}
	}
}

func TestReadNetOfOtherTexts(t *testing.T) {
	good := "N\x02" + someText + other
	texts := []string{good + "\x00", "n" + good[1:], "N\x01" + good[2:], "N\x03" + good[2:], "N\x00", "N\x04" + strings.Repeat(other, 4)}
	for length := range len(good) {
		texts = append(texts, good[:length])
	}
	for _, i := range []int{2, 3, 4, 5, len(someText), 2 + len(someText), 3 + len(someText), 4 + len(someText), len(good) - 2} {
		texts = append(texts, good[:i]+"\x11"+good[i+1:])
	}
	for _, s := range texts {
		if net, ok := ReadNet(doc, s); ok || net != nil {
			t.Errorf("ReadNet(%x) = %v, %v", s, net, ok)
		}
	}
}

func TestLength(t *testing.T) {
	if n := length(doc); n != len(someText) {
		t.Errorf("length = %d", n)
	}
}

// A net of no layers gives the input, in a list of its own.
func TestPlainSharesNothing(t *testing.T) {
	input := []int{1, 2, 3, 4}
	l := Plain(doc, nil, input)
	if !slices.Equal(l, input) {
		t.Errorf("Plain = %v", l)
	}
	l[0] = 7
	Plain(doc, []Layer{some(), some()}, input)
	if !slices.Equal(input, []int{1, 2, 3, 4}) {
		t.Errorf("the input is now %v", input)
	}
}

func TestBendNumber(t *testing.T) {
	for _, c := range []struct {
		bends       bool
		shift, v, w int
	}{
		{false, 0, -5, -5}, {true, 0, -5, 0}, {true, 0, 5, 5}, {false, 1, -5, -3}, {false, 1, 5, 2},
		{false, 7, -1, -1}, {false, 7, 0, 0}, {false, 7, 127, 0}, {false, 7, 128, 1}, {false, 7, -128, -1}, {false, 7, -129, -2},
		{true, 7, 128, 1}, {true, 7, -129, 0}, {false, -1, 5, 0},
	} {
		if w := bendNumber(Layer{Bends: c.bends, Shift: c.shift}, c.v); w != c.w {
			t.Errorf("bends %v, shift %d: %d becomes %d, want %d", c.bends, c.shift, c.v, w, c.w)
		}
	}
}

func TestBendChangesNothing(t *testing.T) {
	a, b, mask := []int{1, 2, 3, 4}, []int{5, 6, 7, 8}, []int{9, 10, 11, 12}
	l := Bend(doc, some(), a, b, mask)
	l[0] = 3
	if !slices.Equal(a, []int{1, 2, 3, 4}) || !slices.Equal(b, []int{5, 6, 7, 8}) || !slices.Equal(mask, []int{9, 10, 11, 12}) {
		t.Errorf("now %v, %v, %v", a, b, mask)
	}
}

package layers

import (
	"slices"
	"testing"

	"hush/api"
	"hush/cipher"
)

var doc = api.Params{N: 4, T: 17, Q: 1000003, B: 4}

const someText = "L\x01\x07" + "\x00\x01\x00\x02\x00\x03\x00\x10" + "\x00\x05\x00\x06\x00\x07\x00\x08"

func some() Layer {
	return Layer{Bends: true, Shift: 7, Matrix: [][]int{{1, 2}, {3, 16}}, Bias: []int{5, 6, 7, 8}}
}

func same(a Layer, b Layer) bool {
	if a.Bends != b.Bends || a.Shift != b.Shift || !slices.Equal(a.Bias, b.Bias) {
		return false
	}
	return slices.EqualFunc(a.Matrix, b.Matrix, slices.Equal[[]int])
}

func TestRead(t *testing.T) {
	if l, ok := Read(doc, someText); !ok || !same(l, some()) {
		t.Errorf("Read = %v, %v", l, ok)
	}
	l, ok := Read(doc, "L\x00\x00"+someText[3:])
	want := some()
	want.Bends, want.Shift = false, 0
	if !ok || !same(l, want) {
		t.Errorf("Read = %v, %v, want %v", l, ok, want)
	}
}

func TestReadOfOtherTexts(t *testing.T) {
	texts := []string{someText + "\x00", someText + "\x00\x00", "l" + someText[1:], "L\x02" + someText[2:], "L\x01\x08" + someText[3:]}
	for length := range len(someText) {
		texts = append(texts, someText[:length])
	}
	for i := 3; i < len(someText); i += 2 {
		texts = append(texts, someText[:i]+"\x00\x11"+someText[i+2:])
	}
	for _, s := range texts {
		if l, ok := Read(doc, s); ok || !same(l, Layer{}) {
			t.Errorf("Read(%x) = %v, %v", s, l, ok)
		}
	}
}

func TestDiagonal(t *testing.T) {
	matrix := [][]int{{1, 2, 3}, {4, 5, 6}, {7, 8, 9}}
	for i, want := range [][]int{{1, 5, 9, 1, 5, 9}, {2, 6, 7, 2, 6, 7}, {3, 4, 8, 3, 4, 8}} {
		if l := diagonal(matrix, i); !slices.Equal(l, want) {
			t.Errorf("diagonal %d is %v, want %v", i, l, want)
		}
	}
	if l := diagonal([][]int{{1, 2}, {3}}, 0); l != nil {
		t.Errorf("diagonal of no square: %v", l)
	}
	if l := diagonal(matrix, -7); l != nil {
		t.Errorf("diagonal -7: %v", l)
	}
}

func TestTimes(t *testing.T) {
	matrix := [][]int{{1, 2}, {3, 16}}
	if l := times(matrix, []int{1, 0, 5, 7}, 17); !slices.Equal(l, []int{1, 3, 2, 8}) {
		t.Errorf("times = %v", l)
	}
	for _, l := range [][]int{nil, {1, 2, 3}, {1, 2, 3, 4, 5}} {
		if out := times(matrix, l, 17); out != nil {
			t.Errorf("times %v = %v", l, out)
		}
	}
	if out := times([][]int{{1, 2}, {3}}, []int{1, 1, 2, 2}, 17); !slices.Equal(out, []int{3, 0, 6, 0}) {
		t.Errorf("times of no square: %v", out)
	}
}

func TestLinearChangesNothing(t *testing.T) {
	l, c := some(), cipher.Cipher{Bound: 2, C0: []int{1, 2, 3, 4}, C1: []int{5, 6, 7, 8}}
	pairs := make([]cipher.Pair, 5)
	for i := range pairs {
		pairs[i] = cipher.Pair{K0: []int{1, 2, 3, 4}, K1: []int{5, 6, 7, 8}}
	}
	share, mask := []int{1, 2, 3, 4}, []int{5, 6, 7, 8}
	if _, ok := Linear(doc, l, c, share, mask, pairs); !ok {
		t.Errorf("no answer")
	}
	for _, pair := range append(pairs, cipher.Pair{K0: c.C0, K1: c.C1}, cipher.Pair{K0: share, K1: mask}) {
		if !slices.Equal(pair.K0, []int{1, 2, 3, 4}) || !slices.Equal(pair.K1, []int{5, 6, 7, 8}) {
			t.Errorf("now %v", pair)
		}
	}
	if !same(l, some()) || c.Bound != 2 {
		t.Errorf("now %v, %d", l, c.Bound)
	}
}

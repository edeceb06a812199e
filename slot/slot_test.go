package slot

import (
	"slices"
	"testing"

	"hush/api"
)

func TestPoints(t *testing.T) {
	for _, c := range []struct {
		p    api.Params
		want []int
	}{
		{api.Params{N: 4, T: 17}, []int{2, 8, 9, 15}},
		{api.Params{N: 8, T: 17}, []int{3, 10, 14, 7, 6, 12, 11, 5}},
	} {
		if l := points(c.p); !slices.Equal(l, c.want) {
			t.Errorf("points of %+v: %v, want %v", c.p, l, c.want)
		}
	}
}

func TestInverse(t *testing.T) {
	for _, m := range []int{17, 97, 1009} {
		for x := 1; x < m; x++ {
			if v := inverse(x, m); v < 1 || v >= m || v*x%m != 1 {
				t.Errorf("one over %d modulo %d: %d", x, m, v)
			}
		}
	}
}

func TestListsAreNotChanged(t *testing.T) {
	p := api.Params{N: 4, T: 17, Q: 1000003, B: 4}
	l := []int{1, 2, 3, 4}
	Encode(p, l)
	Decode(p, l)
	if !slices.Equal(l, []int{1, 2, 3, 4}) {
		t.Errorf("what was handed in is now %v", l)
	}
}

func TestSlotsOfAnotherNumber(t *testing.T) {
	p := api.Params{N: 4, T: 17, Q: 1000003, B: 4}
	for _, l := range [][]int{nil, {1}, {1, 2, 3, 4, 5}} {
		if poly := Encode(p, l); !slices.Equal(poly, []int{0, 0, 0, 0}) {
			t.Errorf("Encode(%v) = %v", l, poly)
		}
	}
}

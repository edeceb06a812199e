package ring

import (
	"slices"
	"testing"
)

func want(t *testing.T, call string, l []int, want ...int) {
	t.Helper()
	if !slices.Equal(l, want) {
		t.Errorf("%s = %v, want %v", call, l, want)
	}
}

func TestAdd(t *testing.T) {
	want(t, "Add", Add([]int{1, 6, -1, -7}, []int{2, 6, 0, -7}, 7), 3, 5, 6, 0)
	want(t, "Add of none", Add(nil, nil, 7))
	want(t, "Add of two lengths", Add([]int{1, 2}, []int{1}, 7))
	want(t, "Add of two lengths", Add([]int{1}, []int{1, 2}, 7))
}

func TestSub(t *testing.T) {
	want(t, "Sub", Sub([]int{1, 6, -1, 0}, []int{2, 6, -3, 1}, 7), 6, 0, 2, 6)
	want(t, "Sub of two lengths", Sub([]int{1, 2}, []int{1}, 7))
	want(t, "Sub of two lengths", Sub([]int{1}, []int{1, 2}, 7))
}

func TestScale(t *testing.T) {
	want(t, "Scale", Scale(3, []int{1, 6, -1, 0}, 7), 3, 4, 4, 0)
	want(t, "Scale", Scale(-1, []int{1, 6, 0, -2}, 7), 6, 1, 0, 2)
}

// x^N is -1.
func TestMul(t *testing.T) {
	want(t, "Mul by 1", Mul([]int{1, 2, 3, 4}, []int{1, 0, 0, 0}, 7), 1, 2, 3, 4)
	want(t, "Mul by x", Mul([]int{1, 2, 3, 4}, []int{0, 1, 0, 0}, 7), 3, 1, 2, 3)
	want(t, "Mul by x^3", Mul([]int{1, 2, 3, 4}, []int{0, 0, 0, 1}, 7), 5, 4, 3, 1)
	want(t, "Mul by -x", Mul([]int{1, 2, 3, 4}, []int{0, -1, 0, 0}, 7), 4, 6, 5, 4)
	want(t, "Mul of two lengths", Mul([]int{1, 2}, []int{1}, 7))
	want(t, "Mul of two lengths", Mul([]int{1}, []int{1, 2}, 7))
}

// The greatest numbers that a modulus allows: 16 times the square of
// 2^30 - 2, which is -1 modulo 2^30 - 1.
func TestMulOfGreatNumbers(t *testing.T) {
	const q = 1<<30 - 1
	a := make([]int, 16)
	for i := range a {
		a[i] = q - 1
	}
	l := Mul(a, a, q)
	for i, v := range l {
		// i + 1 of the products come to x^i, 15 - i to x^(i + 16).
		if sum := 2*i - 14; v != (sum+q)%q {
			t.Errorf("coefficient %d is %d, want %d", i, v, sum)
		}
	}
}

// x^3 is x^3, x^6 is -x^2, x^9 is x; of eight, x^9 is -x, x^12 is -x^4, x^15
// is -x^7, x^18 is x^2, x^21 is x^5.
func TestTurn(t *testing.T) {
	want(t, "Turn", Turn([]int{1, 2, 3, 4}, 7), 1, 4, 4, 2)
	want(t, "Turn", Turn([]int{-1, 0, 0, -6}, 7), 6, 1, 0, 0)
	want(t, "Turn", Turn([]int{1, 2, 3, 4, 5, 6, 7, 8}, 100), 1, 96, 7, 2, 95, 8, 3, 94)
	want(t, "Turn of three", Turn([]int{1, 2, 3}, 7), 2, 0, 0)
	want(t, "Turn of none", Turn(nil, 7))
}

func TestCentre(t *testing.T) {
	for v, want := range []int{0, 1, 2, 3, 4, 5, 6, 7, 8, -8, -7, -6, -5, -4, -3, -2, -1} {
		if c := Centre(v, 17); c != want {
			t.Errorf("Centre(%d, 17) = %d", v, c)
		}
	}
}

func TestListsAreNotChanged(t *testing.T) {
	a, b := []int{1, 2, 3, 4}, []int{-5, 6, -7, 8}
	Add(a, b, 7)
	Scale(3, a, 7)
	Mul(a, b, 7)
	Sub(a, b, 7)
	Turn(b, 7)
	want(t, "a", a, 1, 2, 3, 4)
	want(t, "b", b, -5, 6, -7, 8)
}

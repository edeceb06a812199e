package param

import (
	"testing"

	"hush/api"
)

// With T 17 and Q 1000003 (R 12) a bound E fits if 34 E + 384 is below Q.
func TestFits(t *testing.T) {
	p := api.Params{N: 4, T: 17, Q: 1000003, B: 4}
	for _, c := range []struct {
		bound int
		fits  bool
	}{
		{0, true}, {2, true}, {29400, true}, {29401, false}, {1000003, false},
		{1<<40 - 1, false}, {1 << 58, false}, {1<<63 - 1, false},
	} {
		if fits := Fits(p, c.bound); fits != c.fits {
			t.Errorf("Fits(%d) = %v", c.bound, fits)
		}
	}
}

// What is the same as Q is not below it.
func TestFitsAtTheEdge(t *testing.T) {
	p := api.Params{N: 4, T: 17, Q: 34 * 100, B: 4}
	if !Fits(p, 99) || Fits(p, 100) {
		t.Errorf("Fits: 99 %v, 100 %v", Fits(p, 99), Fits(p, 100))
	}
}

func TestIsPrime(t *testing.T) {
	want := []int{2, 3, 5, 7, 11, 13, 17, 19, 23, 29, 31, 37, 41, 43, 47}
	for n := -10; n < 50; n++ {
		prime := len(want) > 0 && n == want[0]
		if prime {
			want = want[1:]
		}
		if isPrime(n) != prime {
			t.Errorf("isPrime(%d) = %v", n, !prime)
		}
	}
}

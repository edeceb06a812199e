package param

import (
	"testing"

	"hush/api"
)

// With T 17 and Q 1000003 (R 12) a bound E fits if 34 E + 384 is below Q.
func TestFits(t *testing.T) {
	p := api.Params{N: 4, T: 17, Q: 1000003, B: 4}
	for _, c := range []struct {
		bound int
		fits  bool
	}{
		{0, true}, {2, true}, {29400, true}, {29401, false}, {1000003, false},
		{1<<40 - 1, false}, {1 << 58, false}, {1<<63 - 1, false},
	} {
		if fits := Fits(p, c.bound); fits != c.fits {
			t.Errorf("Fits(%d) = %v", c.bound, fits)
		}
	}
}

// What is the same as Q is not below it.
func TestFitsAtTheEdge(t *testing.T) {
	p := api.Params{N: 4, T: 17, Q: 34 * 100, B: 4}
	if !Fits(p, 99) || Fits(p, 100) {
		t.Errorf("Fits: 99 %v, 100 %v", Fits(p, 99), Fits(p, 100))
	}
}

func TestIsPrime(t *testing.T) {
	want := []int{2, 3, 5, 7, 11, 13, 17, 19, 23, 29, 31, 37, 41, 43, 47}
	for n := -10; n < 50; n++ {
		prime := len(want) > 0 && n == want[0]
		if prime {
			want = want[1:]
		}
		if isPrime(n) != prime {
			t.Errorf("isPrime(%d) = %v", n, !prime)
		}
	}
}

func TestRestAndDelta(t *testing.T) {
	for _, c := range []struct{ t, q, rest, delta int }{
		{17, 1000003, 12, 58823}, {17, 400, 9, 23}, {17, 85, 0, 5}, {1009, 1<<30 - 1, 1<<30%1009 - 1, 1 << 30 / 1009}, {0, 7, 0, 0},
	} {
		p := api.Params{N: 4, T: c.t, Q: c.q, B: 4}
		if rest, delta := Rest(p), Delta(p); rest != c.rest || delta != c.delta {
			t.Errorf("T %d, Q %d: %d, %d, want %d, %d", c.t, c.q, rest, delta, c.rest, c.delta)
		}
	}
}

func TestBaseAndDigits(t *testing.T) {
	for _, c := range []struct{ q, b, base, digits int }{
		{1000003, 4, 16, 5}, {1 << 20, 4, 16, 5}, {1<<20 + 1, 4, 16, 6}, {1<<20 - 1, 4, 16, 5},
		{1000003, 1, 2, 20}, {1000003, 8, 256, 3}, {1<<30 - 1, 1, 2, 30}, {1<<30 - 1, 7, 128, 5},
		{2, 1, 2, 1}, {3, 1, 2, 2}, {1, 4, 16, 0}, {0, 4, 16, 0}, {-5, 4, 16, 0}, {1<<63 - 1, 1, 2, 63},
		{1000003, 0, 0, 0}, {1000003, -1, 0, 0}, {1000003, 9, 0, 0}, {1000003, 1<<63 - 1, 0, 0}, {1000003, -1 << 63, 0, 0},
	} {
		p := api.Params{N: 4, T: 17, Q: c.q, B: c.b}
		if base, digits := Base(p), Digits(p); base != c.base || digits != c.digits {
			t.Errorf("Q %d, B %d: %d, %d, want %d, %d", c.q, c.b, base, digits, c.base, c.digits)
		}
	}
}

package hush_test

import (
	"testing"

	"hush/api"
	"hush/hush"
)

func wantCheck(t *testing.T, p api.Params, good bool) {
	t.Helper()
	want := api.ErrParam
	if good {
		want = api.OK
	}
	if e := hush.Check(p); e != want {
		t.Errorf("Check(%+v) = %d, want %d", p, e, want)
	}
}

func TestP2Examples(t *testing.T) {
	wantCheck(t, doc, true)
	wantCheck(t, api.Params{N: 8, T: 17, Q: 1000003, B: 4}, true)
	wantCheck(t, api.Params{N: 8, T: 19, Q: 1000003, B: 4}, false)
	wantCheck(t, api.Params{N: 4, T: 17, Q: 400, B: 4}, true)
	wantCheck(t, api.Params{N: 4, T: 17, Q: 300, B: 4}, false)
}

func TestP2NotGood(t *testing.T) {
	for _, p := range notGood() {
		wantCheck(t, p, false)
	}
}

func TestP2EveryNAndT(t *testing.T) {
	prime := make([]bool, 1300)
	for _, n := range primes(1299) {
		prime[n] = true
	}
	for n := -40; n <= 40; n++ {
		for m := -1300; m < 1300; m++ {
			good := (n == 4 || n == 8 || n == 16) && m >= 0 && m <= 1021 && prime[max(m, 0)] && m%(2*n) == 1
			wantCheck(t, api.Params{N: n, T: m, Q: 1<<30 - 1, B: 1}, good)
		}
	}
}

func TestP2EdgesOfT(t *testing.T) {
	for _, c := range []struct {
		n, t int
		good bool
	}{
		{4, 1009, true}, {8, 1009, true}, {16, 1009, false}, {16, 929, true},
		{4, 1021, false}, {4, 1033, false}, {4, 1, false}, {4, 9, false}, {4, 2, false},
		{4, 961, false}, {4, 41, true}, {8, 41, false}, {8, 113, true}, {16, 113, false},
	} {
		wantCheck(t, api.Params{N: c.n, T: c.t, Q: 1<<30 - 1, B: 1}, c.good)
	}
}

// With T 17 the bound Spread fits if 68 + 32 R is below Q. At Q 68 they are
// the same.
func TestP2EdgesOfQ(t *testing.T) {
	for _, c := range []struct {
		q    int
		good bool
	}{
		{2, false}, {17, false}, {34, false}, {67, false}, {68, false}, {69, false}, {84, false},
		{85, true}, {86, false}, {102, true}, {103, true}, {104, false},
		{356, false}, {357, true}, {1<<30 - 1, true}, {1 << 30, false}, {1<<30 + 1, false},
	} {
		wantCheck(t, api.Params{N: 4, T: 17, Q: c.q, B: 4}, c.good)
	}
}

func TestP2EveryQ(t *testing.T) {
	for _, m := range []int{17, 73, 1009} {
		for q := -100; q < 50000; q++ {
			good := q >= 2 && 2*(m*2+q%m*(m-1)) < q
			wantCheck(t, api.Params{N: 4, T: m, Q: q, B: 4}, good)
		}
	}
}

func TestP2EveryB(t *testing.T) {
	for b := -300; b <= 300; b++ {
		wantCheck(t, api.Params{N: 4, T: 17, Q: 1000003, B: b}, b >= 1 && b <= 8)
	}
}

package hush_test

import (
	"strings"
	"testing"

	"hush/api"
	"hush/hush"
)

func wantSlots(t *testing.T, p api.Params, poly string, values string) {
	t.Helper()
	if s, e := hush.Decode(p, poly); s != values || e != api.OK {
		t.Errorf("Decode(%+v, %x) = %x, %d, want %x", p, poly, s, e, values)
	}
	if s, e := hush.Encode(p, values); s != poly || e != api.OK {
		t.Errorf("Encode(%+v, %x) = %x, %d, want %x", p, values, s, e, poly)
	}
}

// slowPower multiplies one by one, as the document's words go.
func slowPower(x int, exponent int, t int) int {
	v := 1
	for ; exponent > 0; exponent-- {
		v = v * x % t
	}
	return v
}

// slowPoints looks for the points by trying all numbers.
func slowPoints(p api.Params) []int {
	z := 0
	for slowPower(z, p.N, p.T) != p.T-1 {
		z++
	}
	d := p.N / 2
	points := make([]int, p.N)
	exponent := 1
	for j := 0; j < d; j++ {
		points[j] = slowPower(z, exponent, p.T)
		for points[j]*points[d+j]%p.T != 1 {
			points[d+j]++
		}
		exponent *= 3
	}
	return points
}

func slowDecode(p api.Params, points []int, poly []int) []int {
	slots := make([]int, p.N)
	for k, x := range points {
		for i, c := range poly {
			slots[k] = (slots[k] + c*slowPower(x, i, p.T)) % p.T
		}
	}
	return slots
}

// wrongNumbers: texts that are not N numbers below T.
func wrongNumbers(p api.Params) []string {
	zero := numbers(make([]int, p.N)...)
	l := []string{"", "\x00", zero[1:], zero[2:], zero + "\x00", zero + "\x00\x00", zero + zero}
	for i := 0; i < p.N; i++ {
		for _, v := range []int{p.T, p.T + 1, 1024, 32768, 65535} {
			wrong := make([]int, p.N)
			wrong[i] = v
			l = append(l, numbers(wrong...))
		}
	}
	return append(l, strings.Repeat("\x00", 10000000))
}

func TestP3Examples(t *testing.T) {
	wantSlots(t, doc, numbers(1, 0, 0, 0), numbers(1, 1, 1, 1))
	wantSlots(t, doc, numbers(0, 1, 0, 0), numbers(2, 8, 9, 15))
	wantSlots(t, doc, numbers(0, 0, 0, 1), numbers(8, 2, 15, 9))
	wantSlots(t, doc, numbers(0, 0, 0, 0), numbers(0, 0, 0, 0))
	wantSlots(t, doc, numbers(16, 0, 0, 0), numbers(16, 16, 16, 16))
}

// Worked out by hand: with N 8 and T 17, z is 3, and the powers 1, 3, 9 and 11
// of 3 are 3, 10, 14 and 7; one over them 6, 12, 11 and 5.
func TestP3PointsOfEight(t *testing.T) {
	p := api.Params{N: 8, T: 17, Q: 1000003, B: 4}
	wantSlots(t, p, numbers(0, 1, 0, 0, 0, 0, 0, 0), numbers(3, 10, 14, 7, 6, 12, 11, 5))
}

func TestP3EveryNAndT(t *testing.T) {
	for _, p := range allGood() {
		points := slowPoints(p)
		for step := 0; step < p.N; step++ {
			power := make([]int, p.N)
			power[step] = 1
			mixed := make([]int, p.N)
			for i := range mixed {
				mixed[i] = (p.T - 1 - i*i*(step+7)%p.T) % p.T
			}
			for _, poly := range [][]int{power, mixed} {
				wantSlots(t, p, numbers(poly...), numbers(slowDecode(p, points, poly)...))
			}
		}
		greatest := make([]int, p.N)
		for i := range greatest {
			greatest[i] = p.T - 1
		}
		wantSlots(t, p, numbers(greatest...), numbers(slowDecode(p, points, greatest)...))
	}
}

// There is just one polynomial for any slots: no two polynomials share them,
// and each is found again.
func TestP3JustOnePolynomial(t *testing.T) {
	seen := map[string]bool{}
	for i := 0; i < 17*17*17*17; i++ {
		poly := numbers(i%17, i/17%17, i/17/17%17, i/17/17/17)
		values, e := hush.Decode(doc, poly)
		if e != api.OK || seen[values] {
			t.Fatalf("Decode(%x) = %x, %d; ahead of it: %v", poly, values, e, seen[values])
		}
		seen[values] = true
		if again, e := hush.Encode(doc, values); again != poly || e != api.OK {
			t.Fatalf("Encode(%x) = %x, %d, want %x", values, again, e, poly)
		}
	}
}

// Q and B have no part in the slots.
func TestP3OtherParametersDoNotMatter(t *testing.T) {
	for _, p := range []api.Params{{N: 4, T: 17, Q: 85, B: 1}, {N: 4, T: 17, Q: 1<<30 - 1, B: 8}} {
		wantSlots(t, p, numbers(0, 1, 0, 0), numbers(2, 8, 9, 15))
	}
}

func TestP3WrongNumbers(t *testing.T) {
	for _, p := range []api.Params{doc, {N: 8, T: 1009, Q: 1<<30 - 1, B: 1}, {N: 16, T: 257, Q: 1<<30 - 1, B: 1}} {
		for _, s := range wrongNumbers(p) {
			if v, e := hush.Decode(p, s); v != "" || e != api.ErrValue {
				t.Errorf("Decode of %d bytes: %x, %d, want ErrValue", len(s), v, e)
			}
			if v, e := hush.Encode(p, s); v != "" || e != api.ErrValue {
				t.Errorf("Encode of %d bytes: %x, %d, want ErrValue", len(s), v, e)
			}
		}
	}
}

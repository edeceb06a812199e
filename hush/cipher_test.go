package hush_test

import (
	"math/big"
	"math/rand"
	"strings"
	"testing"

	"hush/api"
	"hush/hush"
)

const docKey = "K\x00\x01\x02\x00" // -1 + x^2 - x^3

func wantText(t *testing.T, call string, s string, e api.Errno, want string) {
	t.Helper()
	if s != want || e != api.OK {
		t.Errorf("%s = %x, %d, want %x", call, s, e, want)
	}
}

func wantError(t *testing.T, call string, s string, e api.Errno, want api.Errno) {
	t.Helper()
	if s != "" || e != want {
		t.Errorf("%s = %x, %d, want error %d alone", call, s, e, want)
	}
}

func TestP5Example(t *testing.T) {
	c, e := hush.Encrypt(doc, docKey, numbers(1, 1, 1, 1), "")
	wantText(t, "Encrypt", c, e, hidden(2, 58821, 1000001, 1000001, 1000001, 0, 0, 0, 0))
}

// The values 0, and s = 1: c0 is e - a.
func TestP5Draws(t *testing.T) {
	key, zero := "K\x02\x01\x01\x01", numbers(0, 0, 0, 0)
	for _, c := range []struct{ draws, want string }{
		{long(5, 0, 0, 0) + "\x02\x02\x02\x02", hidden(2, 999998, 0, 0, 0, 5, 0, 0, 0)},
		{long(1000003, 1000004, 1<<32-1, 1000002) + "\x00\x01\x03\x04", hidden(2, 1000001, 1000001, 45591, 3, 0, 1, 954413, 1000002)},
		{long(0, 0, 0, 0) + "\x05\x06\xfe\xff", hidden(2, 1000001, 1000002, 2, 1000001, 0, 0, 0, 0)},
		{"\x00\x01", hidden(2, 1000001-65536, 1000001, 1000001, 1000001, 65536, 0, 0, 0)},
		{long(0, 0, 0, 0) + "\x02\x02", hidden(2, 0, 0, 1000001, 1000001, 0, 0, 0, 0)},
		{long(0, 0, 0, 1) + "\x02\x02\x02\x02" + "more", hidden(2, 0, 0, 0, 1000002, 0, 0, 0, 1)},
	} {
		s, e := hush.Encrypt(doc, key, zero, c.draws)
		wantText(t, "Encrypt", s, e, c.want)
	}
	s, e := hush.Encrypt(doc, key, zero, strings.Repeat("\x00", 10000000))
	wantText(t, "Encrypt with many draws", s, e, hidden(2, 1000001, 1000001, 1000001, 1000001, 0, 0, 0, 0))
}

func TestP5AsTheWordsGo(t *testing.T) {
	r := rand.New(rand.NewSource(5))
	for _, p := range mixedParams() {
		for range 200 {
			key, values, draws := someKey(r, p), below(r, p.N, p.T), someDraws(r, p)
			s, e := hush.Encrypt(p, key, numbers(values...), draws)
			wantText(t, "Encrypt", s, e, slowEncrypt(p, key, encoded(t, p, values), draws))
		}
	}
}

func TestP6Example(t *testing.T) {
	c := hidden(2, 58821, 1000001, 1000001, 1000001, 0, 0, 0, 0)
	v, e := hush.Decrypt(doc, docKey, c)
	wantText(t, "Decrypt", v, e, numbers(1, 1, 1, 1))
	if b, e := hush.Bound(doc, c); b != 2 || e != api.OK {
		t.Errorf("Bound = %d, %d", b, e)
	}
}

// Where what is opened goes from one number to the next, and from T - 1 to 0.
func TestP6EveryCoefficient(t *testing.T) {
	for _, q := range []int{85, 102, 400, 1003} {
		p := api.Params{N: 4, T: 17, Q: q, B: 4}
		for x := 0; x < q; x++ {
			// The next whole number, counted up.
			m := 0
			for 2*q*(m+1) <= 2*17*x+q {
				m++
			}
			v, e := hush.Decrypt(p, docKey, hidden(0, x, 0, 0, 0, 0, 0, 0, 0))
			wantText(t, "Decrypt", v, e, numbers(m%17, m%17, m%17, m%17))
		}
	}
}

// Ciphertexts of any kind are opened, not only those that Encrypt gives.
func TestP6AsTheWordsGo(t *testing.T) {
	r := rand.New(rand.NewSource(6))
	for _, p := range mixedParams() {
		for range 100 {
			key, c := someKey(r, p), append(below(r, p.N, p.Q), below(r, p.N, p.Q)...)
			v, e := hush.Decrypt(p, key, hidden(r.Intn(greatest(p)+1), c...))
			wantText(t, "Decrypt", v, e, numbers(slowDecrypt(p, key, c)...))
		}
	}
}

func TestP6Bound(t *testing.T) {
	for _, p := range mixedParams() {
		top := greatest(p)
		for _, bound := range []int{0, 1, 2, top - 1, top} {
			if b, e := hush.Bound(p, empty(p, bound)); b != bound || e != api.OK {
				t.Errorf("%+v: Bound = %d, %d, want %d", p, b, e, bound)
			}
		}
		for _, bound := range []int{top + 1, p.Q, 1<<32 - 1, 1 << 32, 1<<32 + 2, 1<<40 - 1} {
			if b, e := hush.Bound(p, empty(p, bound)); b != 0 || e != api.ErrForm {
				t.Errorf("%+v: Bound = %d, %d for %d, want ErrForm", p, b, e, bound)
			}
		}
	}
}

func TestP7AsTheWordsGo(t *testing.T) {
	r := rand.New(rand.NewSource(7))
	for _, p := range mixedParams() {
		if greatest(p) < p.Q%p.T {
			continue
		}
		for range 100 {
			room := greatest(p) - p.Q%p.T
			first := r.Intn(room + 1)
			second := r.Intn(room - first + 1)
			a, b := below(r, 2*p.N, p.Q), below(r, 2*p.N, p.Q)
			values := below(r, p.N, p.T)
			m := encoded(t, p, values)
			sum, grown := make([]int, 2*p.N), append([]int{}, a...)
			for i := range sum {
				sum[i] = (a[i] + b[i]) % p.Q
			}
			for i := range m {
				grown[i] = (a[i] + p.Q/p.T*m[i]) % p.Q
			}
			s, e := hush.Add(p, hidden(first, a...), hidden(second, b...))
			wantText(t, "Add", s, e, hidden(first+second+p.Q%p.T, sum...))
			s, e = hush.AddPlain(p, hidden(first, a...), numbers(values...))
			wantText(t, "AddPlain", s, e, hidden(first+p.Q%p.T, grown...))
		}
	}
}

// wantBound: what comes out is empty, with this bound if it fits.
func wantBound(t *testing.T, p api.Params, call string, s string, e api.Errno, bound int) {
	t.Helper()
	if bound > greatest(p) {
		wantError(t, call, s, e, api.ErrNoise)
		return
	}
	wantText(t, call, s, e, empty(p, bound))
}

// edges: bounds that fit, those around a place among them.
func edges(p api.Params, place int) []int {
	var l []int
	for _, bound := range []int{0, 1, 2, place - 1, place, place + 1, greatest(p) - 1, greatest(p)} {
		if bound >= 0 && bound <= greatest(p) {
			l = append(l, bound)
		}
	}
	return l
}

func TestP7Noise(t *testing.T) {
	for _, p := range mixedParams() {
		rest, zero := p.Q%p.T, numbers(make([]int, p.N)...)
		room := greatest(p) - rest
		for _, first := range append(edges(p, room), edges(p, room/2)...) {
			s, e := hush.AddPlain(p, empty(p, first), zero)
			wantBound(t, p, "AddPlain", s, e, first+rest)
			for _, second := range edges(p, room-first) {
				s, e = hush.Add(p, empty(p, first), empty(p, second))
				wantBound(t, p, "Add", s, e, first+second+rest)
			}
		}
	}
}

func TestP8Examples(t *testing.T) {
	a := hidden(2, 58821, 1000001, 5, 7, 1, 0, 0, 2)
	s, e := hush.MulPlain(doc, a, numbers(2, 8, 9, 15))
	wantText(t, "times x", s, e, hidden(14, 999996, 58821, 1000001, 5, 1000001, 1, 0, 0))
	s, e = hush.MulPlain(doc, a, numbers(0, 0, 0, 0))
	wantText(t, "times 0", s, e, empty(doc, 0))
}

func TestP8AsTheWordsGo(t *testing.T) {
	r := rand.New(rand.NewSource(8))
	for _, p := range mixedParams() {
		for range 100 {
			values, c, bound := below(r, p.N, p.T), below(r, 2*p.N, p.Q), r.Intn(min(1000, greatest(p))+1)
			w, size := encoded(t, p, values), 0
			for i := range w {
				if w[i] > (p.T-1)/2 {
					w[i] -= p.T
				}
				size += max(w[i], -w[i])
			}
			grown := size * (bound + p.Q%p.T)
			s, e := hush.MulPlain(p, hidden(bound, c...), numbers(values...))
			if grown > greatest(p) {
				wantError(t, "MulPlain", s, e, api.ErrNoise)
				continue
			}
			var out []int
			for _, v := range append(slowTimes(c[:p.N], w), slowTimes(c[p.N:], w)...) {
				out = append(out, slowModulo(v, p.Q))
			}
			wantText(t, "MulPlain", s, e, hidden(grown, out...))
		}
	}
}

// The values k in all slots are the polynomial k.
func TestP8Centre(t *testing.T) {
	for k := 0; k < 17; k++ {
		w := k
		if k > 8 {
			w = k - 17
		}
		s, e := hush.MulPlain(doc, hidden(2, 1, 0, 0, 0, 0, 0, 0, 3), numbers(k, k, k, k))
		v, u := (w+1000003)%1000003, (3*w+1000003)%1000003
		wantText(t, "MulPlain", s, e, hidden(max(w, -w)*14, v, 0, 0, 0, 0, 0, 0, u))
	}
}

// With the polynomial k (or -k) the bound is k times (the bound and R).
func TestP8Noise(t *testing.T) {
	for _, p := range mixedParams() {
		for k := 0; k <= (p.T-1)/2; k += 1 + p.T/20 {
			for _, v := range []int{k, (p.T - k) % p.T} {
				values := make([]int, p.N)
				for i := range values {
					values[i] = v
				}
				for _, bound := range edges(p, greatest(p)/max(k, 1)-p.Q%p.T) {
					s, e := hush.MulPlain(p, empty(p, bound), numbers(values...))
					wantBound(t, p, "MulPlain", s, e, k*(bound+p.Q%p.T))
				}
			}
		}
	}
}

// opened checks what a ciphertext hides, if it is one, and tells whether it is.
func opened(t *testing.T, p api.Params, key string, c string, e api.Errno, want []int) bool {
	t.Helper()
	if e == api.ErrNoise {
		return false
	}
	v, f := hush.Decrypt(p, key, c)
	if v != numbers(want...) || e != api.OK || f != api.OK {
		t.Errorf("%+v, %x: opened as %x (%d, %d), want %x", p, key, v, e, f, numbers(want...))
	}
	return true
}

func bySlot(p api.Params, a []int, b []int, product bool) []int {
	l := make([]int, len(a))
	for i := range l {
		l[i] = (a[i] + b[i]) % p.T
		if product {
			l[i] = a[i] * b[i] % p.T
		}
	}
	return l
}

// noisy is a ciphertext as far off as a bound allows, to both sides.
func noisy(r *rand.Rand, p api.Params, key string, m []int, bound int) string {
	c1 := below(r, p.N, p.Q)
	cs := slowTimes(c1, slowKey(key))
	c := make([]int, p.N)
	for i, v := range cs {
		off := []int{-bound, bound, r.Intn(2*bound+1) - bound}[r.Intn(3)]
		x := big.NewInt(int64(p.Q/p.T*m[i] + off))
		c[i] = slowModulo(x.Sub(x, v), p.Q)
	}
	return hidden(bound, append(c, c1...)...)
}

// A chain of calls is opened rightly as long as the bound fits, whatever the
// draws, and even with as much noise as the bounds allow.
func TestP15SumsAndProducts(t *testing.T) {
	r := rand.New(rand.NewSource(15))
	for _, p := range append(mixedParams(), api.Params{N: 4, T: 17, Q: 1<<30 - 1, B: 1}) {
		steps := 0
		for range 100 {
			key, values := someKey(r, p), below(r, p.N, p.T)
			c, e := hush.Encrypt(p, key, numbers(values...), someDraws(r, p))
			if r.Intn(2) == 0 {
				c = noisy(r, p, key, encoded(t, p, values), r.Intn(1+greatest(p)>>r.Intn(31)))
			}
			for opened(t, p, key, c, e, values) && steps < 2000 {
				steps++
				other := below(r, p.N, p.T)
				switch r.Intn(3) {
				case 0:
					more, _ := hush.Encrypt(p, key, numbers(other...), someDraws(r, p))
					c, e = hush.Add(p, c, more)
					values = bySlot(p, values, other, false)
				case 1:
					c, e = hush.AddPlain(p, c, numbers(other...))
					values = bySlot(p, values, other, false)
				case 2:
					c, e = hush.MulPlain(p, c, numbers(other...))
					values = bySlot(p, values, other, true)
				}
			}
		}
		if steps < 100 {
			t.Errorf("%+v: %d steps alone", p, steps)
		}
	}
}

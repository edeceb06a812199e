package hush_test

import (
	"math/big"
	"math/rand"
	"strings"
	"testing"

	"hush/api"
	"hush/hush"
)

// Without draws a is 0 and e is -2 everywhere; s' is -1 - x - x^2.
func TestP9TurnKeyWithoutDraws(t *testing.T) {
	want := "R"
	for _, k := range []int{1, 16, 256, 4096, 65536} {
		want += long(1000001-k, 1000001-k, 1000001-k, 1000001, 0, 0, 0, 0)
	}
	s, e := hush.TurnKey(doc, docKey, "")
	wantText(t, "TurnKey", s, e, want)
}

// Every pair takes 20 bytes of the draws. With s = 1, s' is 1 too, and k0 is
// e + 2^(B i) - a.
func TestP9TurnKeyDraws(t *testing.T) {
	key, draws, want := "K\x02\x01\x01\x01", "", "R"
	for i := range 5 {
		draws += long(i+1, 1000003+i, 0, 10*i) + string([]byte{byte(i), 2, 7, 255})
		want += long((i-2+1<<(4*i)-i-1+1000003)%1000003, (1000003-i)%1000003, 0, (1000001-10*i)%1000003)
		want += long(i+1, i, 0, 10*i)
	}
	s, e := hush.TurnKey(doc, key, draws)
	wantText(t, "TurnKey", s, e, want)
	s, e = hush.TurnKey(doc, key, draws+"more")
	wantText(t, "TurnKey with draws left", s, e, want)
	s, e = hush.TurnKey(doc, key, strings.Repeat("\x00", 10000000))
	f, g := hush.TurnKey(doc, key, "")
	if s != f || e != g {
		t.Errorf("TurnKey with noughts: %x, %d, without draws %x, %d", s, e, f, g)
	}
}

func TestP9TurnKeyAsTheWordsGo(t *testing.T) {
	r := rand.New(rand.NewSource(9))
	for _, p := range mixedParams() {
		for range 50 {
			key, draws := someKey(r, p), drawsFor(r, p, slowDigits(p))
			s, e := hush.TurnKey(p, key, draws)
			wantText(t, "TurnKey", s, e, slowTurnKey(p, key, draws))
		}
	}
}

// Q just at, just below and just above 2^(B times L).
func TestP9Digits(t *testing.T) {
	for b := 1; b <= 8; b++ {
		for bits := 7; bits <= 30; bits++ {
			for _, q := range []int{1<<bits - 1, 1 << bits, 1<<bits + 1} {
				p := api.Params{N: 4, T: 17, Q: q, B: b}
				if hush.Check(p) != api.OK {
					continue
				}
				count := (bits + b - 1) / b
				if q > 1<<bits {
					count = bits/b + 1
				}
				s, e := hush.TurnKey(p, docKey, "")
				if len(s) != 1+count*2*4*4 || e != api.OK {
					t.Errorf("%+v: %d bytes, %d, want %d digits", p, len(s), e, count)
				}
				// A key of another number of digits is none.
				for _, other := range []int{count - 1, count, count + 1} {
					turn := "R" + strings.Repeat("\x00", other*2*4*4)
					_, e := hush.Turn(p, empty(p, 0), turn)
					if (e == api.ErrForm) != (other != count) {
						t.Errorf("%+v: %d digits: %d", p, other, e)
					}
				}
			}
		}
	}
}

func TestP9TurnExample(t *testing.T) {
	c := hidden(2, 58821, 1000001, 1000001, 1000001, 0, 0, 0, 0)
	for _, draws := range []string{"", "any draws", strings.Repeat("more of them", 20)} {
		turn, e := hush.TurnKey(doc, docKey, draws)
		if e != api.OK {
			t.Fatal(e)
		}
		s, e := hush.Turn(doc, c, turn)
		wantText(t, "Turn", s, e, hidden(614, 58821, 1000001, 2, 1000001, 0, 0, 0, 0))
	}
}

// Pair i is k0 = 1 and k1 = x for one i, all else is 0: the i-th digits come out.
func TestP9TurnDigits(t *testing.T) {
	c := hidden(0, 0, 0, 0, 0, 0x54321, 0, 0, 0xedcba)
	for i := range 5 {
		turn := "R" + strings.Repeat(long(0, 0, 0, 0, 0, 0, 0, 0), i)
		turn += long(1, 0, 0, 0, 0, 1, 0, 0) + strings.Repeat(long(0, 0, 0, 0, 0, 0, 0, 0), 4-i)
		// x^3 comes to x^9, which is x.
		low, high := 1+i, 10+i
		s, e := hush.Turn(doc, c, turn)
		wantText(t, "Turn", s, e, hidden(612, low, high, 0, 0, 0, low, high, 0))
	}
}

// Any turning key, any ciphertext: what comes out is as the words go.
func TestP9TurnAsTheWordsGo(t *testing.T) {
	r := rand.New(rand.NewSource(10))
	for _, p := range append(mixedParams(), netParams()...) {
		room := greatest(p) - p.Q%p.T - turnNoise(p)
		for range 50 {
			c, turn := append(below(r, p.N, p.Q), below(r, p.N, p.Q)...), below(r, 2*p.N*slowDigits(p), p.Q)
			bound := r.Intn(max(room, 0) + 1)
			s, e := hush.Turn(p, hidden(bound, c...), "R"+long(turn...))
			if room < 0 {
				wantError(t, "Turn", s, e, api.ErrNoise)
				continue
			}
			wantText(t, "Turn", s, e, hidden(bound+p.Q%p.T+turnNoise(p), slowTurn(p, c, turn)...))
		}
	}
}

// turnNoise: L times N times (2^B - 1) times Spread.
func turnNoise(p api.Params) int {
	return slowDigits(p) * p.N * (1<<p.B - 1) * 2
}

func TestP9Noise(t *testing.T) {
	for _, p := range append(mixedParams(), netParams()...) {
		turn := "R" + long(make([]int, 2*p.N*slowDigits(p))...)
		grown := p.Q%p.T + turnNoise(p)
		for _, bound := range edges(p, greatest(p)-grown) {
			s, e := hush.Turn(p, empty(p, bound), turn)
			wantBound(t, p, "Turn", s, e, bound+grown)
		}
	}
}

// turned: slot j becomes what slot j + 1 was, and each row's last one what its
// first one was.
func turned(p api.Params, values []int) []int {
	d := p.N / 2
	l := append([]int{}, values[1:d]...)
	l = append(l, values[0])
	l = append(l, values[d+1:]...)
	return append(l, values[d])
}

// Turned as long as the bound fits, from as much noise as it allows.
func TestP15Turned(t *testing.T) {
	r := rand.New(rand.NewSource(16))
	for _, p := range netParams() {
		turns := 0
		for range 50 {
			key, values := someKey(r, p), below(r, p.N, p.T)
			turn, e := hush.TurnKey(p, key, drawsFor(r, p, slowDigits(p)))
			if e != api.OK {
				t.Fatal(e)
			}
			c, e := hush.Encrypt(p, key, numbers(values...), someDraws(r, p))
			if r.Intn(2) == 0 {
				c = noisy(r, p, key, encoded(t, p, values), r.Intn(1+greatest(p)>>r.Intn(31)))
			}
			for i := 0; i < 20 && opened(t, p, key, c, e, values); i++ {
				turns++
				c, e = hush.Turn(p, c, turn)
				values = turned(p, values)
			}
		}
		if turns < 100 {
			t.Errorf("%+v: %d turns alone", p, turns)
		}
	}
}

// The most noise that there can be: all digits of c1' are the greatest, all
// draws of the turning key the same, and c0 is off by the whole bound.
func TestP15TurnedAtTheEdge(t *testing.T) {
	for _, p := range []api.Params{{N: 4, T: 17, Q: 1 << 20, B: 4}, {N: 8, T: 17, Q: 1 << 24, B: 3}, {N: 16, T: 97, Q: 1 << 30 / 4, B: 7}} {
		bound := greatest(p) - p.Q%p.T - turnNoise(p)
		for _, e := range []string{"\x00", "\x04"} {
			key := "K" + strings.Repeat("\x02\x00\x01\x02", p.N/4)
			draws := strings.Repeat(strings.Repeat("draw", p.N)+strings.Repeat(e, p.N), slowDigits(p))
			turn, f := hush.TurnKey(p, key, draws)
			if f != api.OK {
				t.Fatal(f)
			}
			values := make([]int, p.N)
			for i := range values {
				values[i] = (5*i*i + 1) % p.T
			}
			s, f := hush.Turn(p, mostNoise(p, key, encoded(t, p, values), bound, e == "\x00"), turn)
			if !opened(t, p, key, s, f, turned(p, values)) {
				t.Errorf("%+v: bound %d: %d", p, bound, f)
			}
		}
	}
}

// mostNoise: a ciphertext of the coefficients m whose c0' is off by the bound
// everywhere (minus: downwards), and the coefficients of c1' are Q - 1.
func mostNoise(p api.Params, key string, m []int, bound int, minus bool) string {
	if minus {
		bound = -bound
	}
	sign := make([]int, p.N)
	for i := range sign {
		sign[i] = 1 - 2*(3*i/p.N%2)
	}
	c0, c1 := make([]int, p.N), make([]int, p.N)
	for i := range c1 {
		c1[i] = (p.Q - sign[i]) % p.Q
	}
	for i, v := range slowTimes(c1, slowKey(key)) {
		x := big.NewInt(int64(p.Q/p.T*m[i] + sign[i]*bound))
		c0[i] = slowModulo(x.Sub(x, v), p.Q)
	}
	return hidden(max(bound, -bound), append(c0, c1...)...)
}

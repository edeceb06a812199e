package hush_test

import (
	"math/big"
	"strings"
	"testing"

	"hush/api"
	"hush/hush"
)

// wrongKeys: texts that are no keys.
func wrongKeys(p api.Params) []string {
	good := "K" + strings.Repeat("\x01", p.N)
	l := []string{"", "K", good[1:], good[:p.N], good + "\x00", good + good, "k" + good[1:], "C" + good[1:], "\x00" + good[1:]}
	for i := 1; i <= p.N; i++ {
		for _, b := range []string{"\x03", "\x04", "\x80", "\xff", "1"} {
			l = append(l, good[:i]+b+good[i+1:])
		}
	}
	return append(l, "K"+strings.Repeat("\x00", 10000000))
}

// wrongCiphers: texts that are no ciphertexts.
func wrongCiphers(p api.Params) []string {
	good := empty(p, 2)
	l := []string{"", "C", good[:5], good[:6], good[:len(good)-4], good[:len(good)-1], good + "\x00", good + "\x00\x00\x00\x00", good + good}
	l = append(l, good[1:], "c"+good[1:], "K"+good[1:], "\x00"+good[1:])
	for _, bound := range []int{greatest(p) + 1, p.Q, 1 << 31, 1 << 32, 1<<40 - 1} {
		l = append(l, empty(p, bound))
	}
	for i := 0; i < 2*p.N; i++ {
		for _, v := range []int{p.Q, p.Q + 1, 1 << 30, 1<<32 - 1} {
			c := make([]int, 2*p.N)
			c[i] = v
			l = append(l, hidden(2, c...))
		}
	}
	return append(l, "C"+strings.Repeat("\x00", 10000000))
}

var formParams = []api.Params{doc, {N: 8, T: 17, Q: 1009, B: 3}, {N: 16, T: 929, Q: 1<<30 - 1, B: 5}}

// goodTexts: a key, a ciphertext and values that are what they must be, and
// a text that is nothing.
func goodTexts(p api.Params) (string, string, string, string) {
	return "K" + strings.Repeat("\x02", p.N), empty(p, greatest(p)), strings.Repeat("\x00\x01", p.N), "nothing"
}

func TestP1Keys(t *testing.T) {
	for _, p := range formParams {
		key, c, values, none := goodTexts(p)
		for _, wrong := range wrongKeys(p) {
			for _, other := range []string{values, none, ""} {
				s, e := hush.Encrypt(p, wrong, other, "")
				wantError(t, "Encrypt without a key", s, e, api.ErrForm)
			}
			for _, other := range []string{c, none, ""} {
				s, e := hush.Decrypt(p, wrong, other)
				wantError(t, "Decrypt without a key", s, e, api.ErrForm)
			}
		}
		if s, e := hush.Decrypt(p, key, c); len(s) != 2*p.N || e != api.OK {
			t.Errorf("Decrypt(%+v, %x, %x) = %x, %d", p, key, c, s, e)
		}
	}
}

func TestP1Ciphertexts(t *testing.T) {
	for _, p := range formParams {
		key, c, values, none := goodTexts(p)
		for _, wrong := range wrongCiphers(p) {
			s, e := hush.Decrypt(p, key, wrong)
			wantError(t, "Decrypt", s, e, api.ErrForm)
			if b, e := hush.Bound(p, wrong); b != 0 || e != api.ErrForm {
				t.Errorf("Bound of %.50x = %d, %d, want ErrForm", wrong, b, e)
			}
			for _, other := range []string{c, none, wrong} {
				s, e = hush.Add(p, wrong, other)
				wantError(t, "Add, the first", s, e, api.ErrForm)
				s, e = hush.Add(p, other, wrong)
				wantError(t, "Add, the second", s, e, api.ErrForm)
			}
			for _, other := range []string{values, none, ""} {
				s, e = hush.AddPlain(p, wrong, other)
				wantError(t, "AddPlain", s, e, api.ErrForm)
				s, e = hush.MulPlain(p, wrong, other)
				wantError(t, "MulPlain", s, e, api.ErrForm)
			}
		}
	}
}

// Values that are wrong come ahead of a bound that does not fit.
func TestP1Values(t *testing.T) {
	for _, p := range formParams {
		key, c, values, _ := goodTexts(p)
		for _, wrong := range wrongNumbers(p) {
			s, e := hush.Encrypt(p, key, wrong, "")
			wantError(t, "Encrypt", s, e, api.ErrValue)
			s, e = hush.AddPlain(p, c, wrong)
			wantError(t, "AddPlain", s, e, api.ErrValue)
			s, e = hush.MulPlain(p, c, wrong)
			wantError(t, "MulPlain", s, e, api.ErrValue)
		}
		s, e := hush.AddPlain(p, c, values)
		wantError(t, "AddPlain of the greatest bound", s, e, api.ErrNoise)
		s, e = hush.MulPlain(p, c, values)
		wantError(t, "MulPlain of the greatest bound", s, e, api.ErrNoise)
	}
}

// isCipher says by the document's words whether a text is a ciphertext.
func isCipher(p api.Params, s string) bool {
	if len(s) != 1+5+4*2*p.N || s[0] != 'C' {
		return false
	}
	for _, v := range read(s[6:], 4) {
		if v >= p.Q {
			return false
		}
	}
	// 2 times (T times E and R times (T - 1)) is below Q.
	sum := new(big.Int).SetBytes([]byte(s[1:6]))
	sum.Mul(sum, big.NewInt(int64(p.T)))
	sum.Add(sum, big.NewInt(int64(p.Q%p.T*(p.T-1))))
	sum.Mul(sum, big.NewInt(2))
	return sum.Cmp(big.NewInt(int64(p.Q))) < 0
}

func TestP1EveryByteOfACiphertext(t *testing.T) {
	for _, p := range formParams {
		key, c, values, _ := goodTexts(p)
		for i := range len(c) {
			for b := 0; b < 256; b++ {
				changed := c[:i] + string([]byte{byte(b)}) + c[i+1:]
				want := api.ErrForm
				if isCipher(p, changed) {
					want = api.OK
				}
				if _, e := hush.Bound(p, changed); e != want {
					t.Errorf("%+v, byte %d is %d: Bound %d, want %d", p, i, b, e, want)
				}
				_, e := hush.Add(p, empty(p, 0), changed)
				f := want
				if want == api.OK && read(changed[1:6], 5)[0]+p.Q%p.T > greatest(p) {
					f = api.ErrNoise
				}
				if e != f {
					t.Errorf("%+v, byte %d is %d: Add %d, want %d", p, i, b, e, f)
				}
				hush.Decrypt(p, key, changed)
				hush.MulPlain(p, changed, values)
			}
		}
	}
}

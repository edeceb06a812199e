package hush_test

import (
	"strings"
	"testing"

	"hush/api"
	"hush/hush"
)

// turnKeyLength: of a turning key, in bytes.
func turnKeyLength(p api.Params) int { return 1 + slowDigits(p)*2*p.N*4 }

// layerLength: of a layer, in bytes.
func layerLength(p api.Params) int { return 3 + 2*(p.N/2)*(p.N/2) + 2*p.N }

// wrongTurnKeys: texts that are no turning keys.
func wrongTurnKeys(p api.Params) []string {
	good := "R" + strings.Repeat("\x00", turnKeyLength(p)-1)
	half := strings.Repeat("\x00", 4*p.N)
	l := []string{"", "R", good[1:], good[:len(good)-1], good[:len(good)-4], good + "\x00", good + good, good[1:] + "R"}
	l = append(l, good[:len(good)-4*p.N], good[:len(good)-8*p.N], good+half, good+half+half)
	l = append(l, "r"+good[1:], "K"+good[1:], "C"+good[1:], "\x00"+good[1:], empty(p, 2))
	for i := 1; i < len(good); i += 4 {
		for _, v := range []int{p.Q, 1 << 30, 1<<32 - 1} {
			l = append(l, good[:i]+long(v)+good[i+4:])
		}
	}
	return append(l, "R"+strings.Repeat("\x00", 10000000))
}

// wrongLayers: texts that are no layers.
func wrongLayers(p api.Params) []string {
	zero := strings.Repeat("\x00", layerLength(p)-3)
	good := "L\x01\x03" + zero
	l := []string{"", "L", "L\x00", "L\x00\x00", good[1:], good[:len(good)-1], good[:len(good)-2], good + "\x00", good + "\x00\x00", good + good}
	l = append(l, good[:len(good)-2*p.N], good[:len(good)-2*p.N-1], "N\x01"+good)
	for _, head := range []string{"l\x00\x00", "\x00\x00\x00", "N\x00\x00", "L\x02\x00", "L\xff\x00", "L1\x00", "L\x00\x08", "L\x01\xff", "L\x000"} {
		l = append(l, head+zero)
	}
	for i := 3; i < len(good); i += 2 {
		for _, v := range []int{p.T, p.T + 1, 1024, 65535} {
			l = append(l, good[:i]+numbers(v)+good[i+2:])
		}
	}
	return append(l, "L\x00\x00"+strings.Repeat("\x00", 10000000))
}

// goodNet: a layer and a turning key that are what they must be.
func goodNet(p api.Params) (string, string) {
	return "L\x01\x07" + strings.Repeat("\x00\x01", (layerLength(p)-3)/2), "R" + strings.Repeat("\x00\x00\x00\x01", (turnKeyLength(p)-1)/4)
}

func TestP1TurnKey(t *testing.T) {
	for _, p := range formParams {
		for _, wrong := range wrongKeys(p) {
			s, e := hush.TurnKey(p, wrong, "draws")
			wantError(t, "TurnKey", s, e, api.ErrForm)
		}
	}
}

// A ciphertext with the greatest bound has no room to be turned: the error is
// still the one of the form.
func TestP1Turn(t *testing.T) {
	for _, p := range formParams {
		_, c, _, none := goodTexts(p)
		_, turn := goodNet(p)
		for _, wrong := range wrongCiphers(p) {
			for _, other := range []string{turn, none, ""} {
				s, e := hush.Turn(p, wrong, other)
				wantError(t, "Turn of no ciphertext", s, e, api.ErrForm)
			}
		}
		for _, wrong := range wrongTurnKeys(p) {
			s, e := hush.Turn(p, c, wrong)
			wantError(t, "Turn by no turning key", s, e, api.ErrForm)
		}
		s, e := hush.Turn(p, c, turn)
		wantError(t, "Turn of the greatest bound", s, e, api.ErrNoise)
	}
}

func TestP1Linear(t *testing.T) {
	for _, p := range formParams {
		_, c, values, _ := goodTexts(p)
		layer, turn := goodNet(p)
		for _, wrong := range wrongLayers(p) {
			s, e := hush.Linear(p, wrong, c, values, values, turn)
			wantError(t, "no layer", s, e, api.ErrForm)
		}
		for _, wrong := range wrongCiphers(p) {
			s, e := hush.Linear(p, layer, wrong, values, values, turn)
			wantError(t, "no ciphertext", s, e, api.ErrForm)
		}
		for _, wrong := range wrongNumbers(p) {
			s, e := hush.Linear(p, layer, c, wrong, values, turn)
			wantError(t, "no share", s, e, api.ErrValue)
			s, e = hush.Linear(p, layer, c, values, wrong, turn)
			wantError(t, "no mask", s, e, api.ErrValue)
		}
		for _, wrong := range wrongTurnKeys(p) {
			s, e := hush.Linear(p, layer, c, values, values, wrong)
			wantError(t, "no turning key", s, e, api.ErrForm)
		}
		s, e := hush.Linear(p, layer, c, values, values, turn)
		wantError(t, "the greatest bound", s, e, api.ErrNoise)
	}
}

// Of several texts that are wrong the first one tells the error.
func TestP1LinearInTheOrderOfTheArguments(t *testing.T) {
	errors := []api.Errno{api.ErrForm, api.ErrForm, api.ErrValue, api.ErrValue, api.ErrForm}
	for _, p := range formParams {
		_, c, values, none := goodTexts(p)
		layer, turn := goodNet(p)
		for wrong := 1; wrong < 32; wrong++ {
			texts := []string{layer, c, values, values, turn}
			want := api.OK
			for i := 4; i >= 0; i-- {
				if wrong>>i&1 == 1 {
					texts[i] = none
					want = errors[i]
				}
			}
			s, e := hush.Linear(p, texts[0], texts[1], texts[2], texts[3], texts[4])
			wantError(t, "Linear", s, e, want)
		}
	}
}

// isLayer says by the document's words whether a text is a layer.
func isLayer(p api.Params, s string) bool {
	if len(s) != layerLength(p) || s[0] != 'L' || s[1] > 1 || s[2] > 7 {
		return false
	}
	for _, v := range read(s[3:], 2) {
		if v >= p.T {
			return false
		}
	}
	return true
}

// isTurnKey says by the document's words whether a text is a turning key.
func isTurnKey(p api.Params, s string) bool {
	if len(s) != turnKeyLength(p) || s[0] != 'R' {
		return false
	}
	for _, v := range read(s[1:], 4) {
		if v >= p.Q {
			return false
		}
	}
	return true
}

// A layer or turning key with any one byte changed is one or not; with the
// greatest bound there is no room for what follows.
func TestP1EveryByteOfALayerAndATurningKey(t *testing.T) {
	for _, p := range formParams[:2] {
		_, c, values, _ := goodTexts(p)
		layer, turn := goodNet(p)
		for b := range 256 {
			one := string([]byte{byte(b)})
			for i := range len(layer) {
				changed := layer[:i] + one + layer[i+1:]
				want := api.ErrForm
				if isLayer(p, changed) {
					want = api.ErrNoise
				}
				s, e := hush.Linear(p, changed, c, values, values, turn)
				wantError(t, "Linear", s, e, want)
			}
			for i := range len(turn) {
				changed := turn[:i] + one + turn[i+1:]
				want := api.ErrForm
				if isTurnKey(p, changed) {
					want = api.ErrNoise
				}
				s, e := hush.Turn(p, c, changed)
				wantError(t, "Turn", s, e, want)
			}
		}
	}
}

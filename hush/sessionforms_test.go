package hush_test

import (
	"strings"
	"testing"

	"hush/api"
	"hush/hush"
)

// wrongNets: texts that are no nets.
func wrongNets(p api.Params) []string {
	layer, _ := goodNet(p)
	l := []string{"", "N", "N\x00", "N\x01", "N\x02", "N\x03", layer, "N" + layer, "\x01" + layer, "N\x01" + layer + "\x00", "N\x01\x00" + layer}
	for count, layers := 0, ""; count <= 5; count, layers = count+1, layers+layer {
		for said := range 256 {
			if said != count || count < 1 || count > 3 {
				l = append(l, "N"+string([]byte{byte(said)})+layers)
			}
		}
	}
	for _, head := range []string{"n\x01", "L\x01", "\x00\x01", "N1", "M\x01"} {
		l = append(l, head+layer)
	}
	for _, wrong := range wrongLayers(p) {
		l = append(l, "N\x01"+wrong, "N\x02"+wrong+layer, "N\x02"+layer+wrong, "N\x03"+layer+layer+wrong)
	}
	return append(l, "N\x03"+strings.Repeat("\x00", 10000000))
}

// netOf: a net of some layers that are what they must be.
func netOf(p api.Params, count int) string {
	layer, _ := goodNet(p)
	return "N" + string([]byte{byte(count)}) + strings.Repeat(layer, count)
}

func TestP1Bend(t *testing.T) {
	for _, p := range formParams {
		_, _, values, _ := goodTexts(p)
		layer, _ := goodNet(p)
		for _, wrong := range wrongLayers(p) {
			s, e := hush.Bend(p, wrong, values, values, values)
			wantError(t, "no layer", s, e, api.ErrForm)
		}
		for _, wrong := range wrongNumbers(p) {
			s, e := hush.Bend(p, layer, wrong, values, values)
			wantError(t, "no share a", s, e, api.ErrValue)
			s, e = hush.Bend(p, layer, values, wrong, values)
			wantError(t, "no share b", s, e, api.ErrValue)
			s, e = hush.Bend(p, layer, values, values, wrong)
			wantError(t, "no mask", s, e, api.ErrValue)
			s, e = hush.Bend(p, wrong, wrong, wrong, wrong)
			wantError(t, "nothing", s, e, api.ErrForm)
		}
		if s, e := hush.Bend(p, layer, values, values, values); len(s) != 2*p.N || e != api.OK {
			t.Errorf("Bend = %x, %d", s, e)
		}
	}
}

func TestP1Plain(t *testing.T) {
	for _, p := range formParams {
		_, _, values, none := goodTexts(p)
		for _, wrong := range wrongNets(p) {
			for _, other := range []string{values, none, ""} {
				s, e := hush.Plain(p, wrong, other)
				wantError(t, "no net", s, e, api.ErrForm)
			}
		}
		for _, wrong := range wrongNumbers(p) {
			s, e := hush.Plain(p, netOf(p, 2), wrong)
			wantError(t, "no input", s, e, api.ErrValue)
		}
		for count := 1; count <= 3; count++ {
			if s, e := hush.Plain(p, netOf(p, count), values); len(s) != 2*p.N || e != api.OK {
				t.Errorf("Plain of %d layers = %x, %d", count, s, e)
			}
		}
	}
}

// wantNone: New gives an error and no session.
func wantNone(t *testing.T, why string, x *hush.Session, e api.Errno, want api.Errno) {
	t.Helper()
	if x != nil || e != want {
		t.Errorf("%s: New gives a session: %v, and %d, want %d alone", why, x != nil, e, want)
	}
}

func TestP1New(t *testing.T) {
	for _, p := range formParams {
		key, _, values, _ := goodTexts(p)
		_, turn := goodNet(p)
		net := netOf(p, 1)
		for _, wrong := range wrongNets(p) {
			x, e := hush.New(p, wrong, key, turn, values)
			wantNone(t, "no net", x, e, api.ErrForm)
		}
		for _, wrong := range wrongKeys(p) {
			x, e := hush.New(p, net, wrong, turn, values)
			wantNone(t, "no key", x, e, api.ErrForm)
		}
		for _, wrong := range wrongTurnKeys(p) {
			x, e := hush.New(p, net, key, wrong, values)
			wantNone(t, "no turning key", x, e, api.ErrForm)
		}
		for _, wrong := range wrongNumbers(p) {
			x, e := hush.New(p, net, key, turn, wrong)
			wantNone(t, "no input", x, e, api.ErrValue)
		}
		for count := 1; count <= 3; count++ {
			if x, e := hush.New(p, netOf(p, count), key, turn, values); x == nil || e != api.OK {
				t.Errorf("New of %d layers: %d", count, e)
			}
		}
	}
	for _, p := range notGood() {
		x, e := hush.New(p, "no net", "no key", "no turning key", "no input")
		wantNone(t, "no parameters", x, e, api.ErrParam)
	}
}

// Of several texts that are wrong the first one tells the error.
func TestP1NewInTheOrderOfTheArguments(t *testing.T) {
	errors := []api.Errno{api.ErrForm, api.ErrForm, api.ErrForm, api.ErrValue}
	for _, p := range formParams {
		key, _, values, none := goodTexts(p)
		_, turn := goodNet(p)
		for wrong := 1; wrong < 16; wrong++ {
			texts := []string{netOf(p, 2), key, turn, values}
			want := api.OK
			for i := 3; i >= 0; i-- {
				if wrong>>i&1 == 1 {
					texts[i] = none
					want = errors[i]
				}
			}
			x, e := hush.New(p, texts[0], texts[1], texts[2], texts[3])
			wantNone(t, "wrong texts", x, e, want)
		}
	}
}

// isNet says by the document's words whether a text is a net.
func isNet(p api.Params, s string) bool {
	if len(s) < 2 || s[0] != 'N' || s[1] < 1 || s[1] > 3 || len(s) != 2+int(s[1])*layerLength(p) {
		return false
	}
	for s = s[2:]; len(s) > 0; s = s[layerLength(p):] {
		if !isLayer(p, s[:layerLength(p)]) {
			return false
		}
	}
	return true
}

// A net with any one byte changed is one or not.
func TestP1EveryByteOfANet(t *testing.T) {
	for _, p := range formParams[:2] {
		key, _, values, _ := goodTexts(p)
		_, turn := goodNet(p)
		for count := 1; count <= 3; count++ {
			net := netOf(p, count)
			for b := range 256 {
				for i := range len(net) {
					changed := net[:i] + string([]byte{byte(b)}) + net[i+1:]
					want := api.ErrForm
					if isNet(p, changed) {
						want = api.OK
					}
					x, e := hush.New(p, changed, key, turn, values)
					_, f := hush.Plain(p, changed, values)
					if e != want || f != want || (x == nil) != (e != api.OK) {
						t.Errorf("%+v, byte %d is %d: New %d, Plain %d, want %d", p, i, b, e, f, want)
					}
				}
			}
		}
	}
}

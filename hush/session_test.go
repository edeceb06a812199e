package hush_test

import (
	"math/rand"
	"strings"
	"testing"

	"hush/api"
	"hush/hush"
)

// roomy: parameters with room for every layer of two by two.
var roomy = api.Params{N: 4, T: 17, Q: 1<<30 - 35, B: 2}

// begun: a session that New must give.
func begun(t *testing.T, p api.Params, net string, key string, turn string, input string) *hush.Session {
	t.Helper()
	x, e := hush.New(p, net, key, turn, input)
	if x == nil || e != api.OK {
		t.Fatalf("New: %d", e)
	}
	return x
}

func wantShares(t *testing.T, why string, x *hush.Session, client string, server string) {
	t.Helper()
	if a, b := x.Shares(); a != client || b != server {
		t.Errorf("%s: Shares() = %x, %x, want %x, %x", why, a, b, client, server)
	}
}

// wantEarly: there is no output yet.
func wantEarly(t *testing.T, why string, x *hush.Session) {
	t.Helper()
	s, e := x.Output()
	wantError(t, why+": Output ahead of the end", s, e, api.ErrPhase)
}

func wantStep(t *testing.T, why string, x *hush.Session, draws string, want string) {
	t.Helper()
	s, e := x.Step(draws)
	wantText(t, why, s, e, want)
}

// The shares are worked out by hand: the matrix 2 3, -1 5 and the bias make
// 9 11, 4 4 of 1 2, 3 4; bent and over 2 that is 0 0, 2 2.
func TestP14ByHand(t *testing.T) {
	l := layer(1, 1, 2, 3, 16, 5, 1, 2, 3, 4)
	turn, _ := hush.TurnKey(roomy, docKey, "draws for turning")
	input, zero := numbers(1, 2, 3, 4), numbers(0, 0, 0, 0)
	x := begun(t, roomy, "N\x01"+l, docKey, turn, input)
	wantShares(t, "ahead of all", x, input, zero)
	wantEarly(t, "ahead of all", x)

	sent, _ := hush.Encrypt(roomy, docKey, input, "draws")
	wantStep(t, "send", x, "draws", sent)
	wantShares(t, "sent", x, input, zero)
	wantEarly(t, "sent", x)

	// 65535 leaves 0 by 17, 256 leaves 1; behind the end there are noughts.
	answer, _ := hush.Linear(roomy, l, sent, zero, numbers(0, 12, 1, 0), turn)
	wantStep(t, "answer", x, "\xff\xff\x00\x0c\x01", answer)
	wantShares(t, "answered", x, input, numbers(0, 12, 1, 0))
	wantEarly(t, "answered", x)

	wantStep(t, "open", x, "draws that nothing takes", "")
	wantShares(t, "opened", x, numbers(9, 16, 3, 4), numbers(0, 12, 1, 0))
	wantEarly(t, "opened", x)

	wantStep(t, "bend", x, numbers(17, 1, 3, 33)+"and more", "")
	wantShares(t, "bent", x, numbers(0, 16, 16, 3), numbers(0, 1, 3, 16))
	s, e := x.Output()
	wantText(t, "Output", s, e, numbers(0, 0, 2, 2))
}

// slowMask: 2 bytes for each slot, as a number, modulo T.
func slowMask(p api.Params, draws string) string {
	draws += string(make([]byte, 2*p.N))
	mask := read(draws[:2*p.N], 2)
	for i := range mask {
		mask[i] %= p.T
	}
	return numbers(mask...)
}

// stepDraws: for a step: none, too few, or more than enough.
func stepDraws(r *rand.Rand, p api.Params) string {
	if r.Intn(4) == 0 {
		return ""
	}
	return someDraws(r, p)
}

// sideBySide takes the steps of a layer and makes the calls that they are made
// of; it gives the shares that come out, and what stopped it.
func sideBySide(t *testing.T, r *rand.Rand, p api.Params, x *hush.Session, l string, key string, turn string, client string, server string) (string, string, api.Errno) {
	t.Helper()
	draws := stepDraws(r, p)
	sent, _ := hush.Encrypt(p, key, client, draws)
	wantStep(t, "send", x, draws, sent)
	wantShares(t, "sent", x, client, server)
	wantEarly(t, "sent", x)

	draws = stepDraws(r, p)
	mask := slowMask(p, draws)
	answer, want := hush.Linear(p, l, sent, server, mask, turn)
	s, e := x.Step(draws)
	if s != answer || e != want {
		t.Errorf("answer: %x, %d, want %x, %d", s, e, answer, want)
	}
	if e != api.OK {
		wantShares(t, "not answered", x, client, server)
		return client, server, e
	}
	wantShares(t, "answered", x, client, mask)
	wantEarly(t, "answered", x)

	wantStep(t, "open", x, stepDraws(r, p), "")
	client, _ = hush.Decrypt(p, key, answer)
	wantShares(t, "opened", x, client, mask)
	wantEarly(t, "opened", x)

	draws = stepDraws(r, p)
	last := slowMask(p, draws)
	client, _ = hush.Bend(p, l, client, mask, last)
	wantStep(t, "bend", x, draws, "")
	wantShares(t, "bent", x, client, last)
	return client, last, api.OK
}

// stuck: a step that answers an error leaves all as it was, as often as it is
// tried, whatever the draws.
func stuck(t *testing.T, x *hush.Session, want api.Errno) {
	t.Helper()
	client, server := x.Shares()
	output, e := x.Output()
	for _, draws := range []string{"", "draws", strings.Repeat("\xff", 1000)} {
		s, f := x.Step(draws)
		wantError(t, "Step", s, f, want)
		wantShares(t, "behind an error", x, client, server)
		if s, f := x.Output(); s != output || f != e {
			t.Errorf("behind an error: Output() = %x, %d, ahead of it %x, %d", s, f, output, e)
		}
	}
}

// Nets of one to three layers with any turning key, be it the key's own or not.
func TestP14SideBySide(t *testing.T) {
	r := rand.New(rand.NewSource(20))
	done, early, late := 0, 0, 0
	for _, p := range append(mixedParams(), netParams()...) {
		for count := 1; count <= 3; count++ {
			for range 20 {
				net, key := someNet(r, p, count), someKey(r, p)
				turn := "R" + long(below(r, 2*p.N*slowDigits(p), p.Q)...)
				client, server := numbers(below(r, p.N, p.T)...), numbers(make([]int, p.N)...)
				x := begun(t, p, netText(net), key, turn, client)
				wantShares(t, "ahead of all", x, client, server)
				wantEarly(t, "ahead of all", x)
				e := api.OK
				for i := 0; i < count && e == api.OK; i++ {
					client, server, e = sideBySide(t, r, p, x, net[i].text(), key, turn, client, server)
					switch {
					case e != api.OK && i == 0:
						early++
					case e != api.OK:
						late++
					case i < count-1:
						wantEarly(t, "between layers", x)
					}
				}
				if e != api.OK {
					wantEarly(t, "too much noise", x)
					stuck(t, x, api.ErrNoise)
					continue
				}
				done++
				s, e := x.Output()
				wantText(t, "Output", s, e, numbers(bySlot(p, read(client, 2), read(server, 2), false)...))
				stuck(t, x, api.ErrPhase)
			}
		}
	}
	if done < 100 || early < 100 || late < 30 {
		t.Errorf("%d sessions done, %d stuck in the first layer, %d behind it", done, early, late)
	}
}

// The first layer fits, the second one does not: the session stays where it is,
// with the shares that the first one left.
func TestP14NoiseInTheSecondLayer(t *testing.T) {
	p := api.Params{N: 4, T: 17, Q: 17 << 11, B: 1}
	turn, _ := hush.TurnKey(p, docKey, "")
	// R is 0, and the greatest bound that fits is 1023; the turn makes 2 into
	// 2 + 16 * 4 * 2 = 130, of which 8 times is too much.
	same, much := layer(0, 0, 1, 0, 0, 1, 0, 0, 0, 0), layer(0, 0, 8, 8, 8, 8, 0, 0, 0, 0)
	input, zero := numbers(1, 2, 3, 4), numbers(0, 0, 0, 0)
	x := begun(t, p, "N\x02"+same+much, docKey, turn, input)
	mask := numbers(5, 6, 7, 8)
	for i, draws := range []string{"", zero, "", mask} {
		if _, e := x.Step(draws); e != api.OK {
			t.Fatalf("step %d: %d", i, e)
		}
	}
	client := numbers(13, 13, 13, 13)
	wantShares(t, "one layer done", x, client, mask)
	sent, _ := hush.Encrypt(p, docKey, client, "draws")
	wantStep(t, "send", x, "draws", sent)
	stuck(t, x, api.ErrNoise)
	wantShares(t, "too much noise", x, client, mask)
}

// R is 0, the greatest bound that fits is 97, and the turn makes 2 into
// 2 + 12 * 4 * 2 = 98: one less would fit. What was sent stays sent, with its
// bound.
func TestP14NoiseByOne(t *testing.T) {
	p := api.Params{N: 4, T: 17, Q: 3332, B: 1}
	turn, _ := hush.TurnKey(p, docKey, "")
	x := begun(t, p, "N\x01"+blank(p, 0, 0), docKey, turn, numbers(1, 2, 3, 4))
	sent, _ := hush.Encrypt(p, docKey, numbers(1, 2, 3, 4), "draws")
	wantStep(t, "send", x, "draws", sent)
	stuck(t, x, api.ErrNoise)
	stuck(t, x, api.ErrNoise)

	p.Q = 3332 + 34
	turn, _ = hush.TurnKey(p, docKey, "")
	x = begun(t, p, "N\x01"+blank(p, 0, 0), docKey, turn, numbers(1, 2, 3, 4))
	if !finish(t, rand.New(rand.NewSource(25)), p, x, 1) {
		t.Errorf("one more does not fit")
	}
}

// player: a session, the draws of its steps, and what it answered to them.
type player struct {
	p                     api.Params
	net, key, turn, input string
	draws                 []string
	told                  []string
}

// somePlayer: with draws for a step more than there are.
func somePlayer(r *rand.Rand, p api.Params) player {
	count := 1 + r.Intn(3)
	key := someKey(r, p)
	turn, _ := hush.TurnKey(p, key, drawsFor(r, p, slowDigits(p)))
	l := player{p: p, net: netText(someNet(r, p, count)), key: key, turn: turn, input: numbers(below(r, p.N, p.T)...)}
	for range 4*count + 1 {
		l.draws = append(l.draws, stepDraws(r, p))
	}
	return l
}

// told: all that a session answers to a step and behind it.
func told(x *hush.Session, draws string) string {
	s, e := x.Step(draws)
	a, b := x.Shares()
	o, f := x.Output()
	return strings.Join([]string{s, a, b, o, string([]byte{byte(e), byte(f)})}, "|")
}

// Sessions that are taken step by step in turn answer what each answers alone,
// and the same again.
func TestP1SessionsAlone(t *testing.T) {
	r := rand.New(rand.NewSource(21))
	var players []player
	for _, p := range append(netParams(), netParams()...) {
		l := somePlayer(r, p)
		x := begun(t, p, l.net, l.key, l.turn, l.input)
		for _, draws := range l.draws {
			l.told = append(l.told, told(x, draws))
		}
		players = append(players, l)
		// The same net, key and turning key with another input.
		l.input, l.told = numbers(below(r, p.N, p.T)...), nil
		x = begun(t, p, l.net, l.key, l.turn, l.input)
		for _, draws := range l.draws {
			l.told = append(l.told, told(x, draws))
		}
		players = append(players, l)
	}
	var together []*hush.Session
	for _, l := range players {
		together = append(together, begun(t, l.p, l.net, l.key, l.turn, l.input))
	}
	for step := range 13 {
		for _, k := range r.Perm(len(players)) {
			l := players[k]
			if step >= len(l.draws) {
				continue
			}
			if s := told(together[k], l.draws[step]); s != l.told[step] {
				t.Errorf("session %d, step %d: %x, alone %x", k, step, s, l.told[step])
			}
		}
	}
}

// To ask for the shares and the output, often or never, changes nothing.
func TestP1AskingChangesNothing(t *testing.T) {
	r := rand.New(rand.NewSource(22))
	for _, p := range netParams() {
		l := somePlayer(r, p)
		x := begun(t, p, l.net, l.key, l.turn, l.input)
		y := begun(t, p, l.net, l.key, l.turn, l.input)
		for _, draws := range l.draws {
			for range r.Intn(4) {
				x.Shares()
				x.Output()
			}
			s, e := x.Step(draws)
			u, f := y.Step(draws)
			if s != u || e != f {
				t.Errorf("asked: %x, %d, not asked: %x, %d", s, e, u, f)
			}
		}
	}
}

// Draws of any length: what is behind those that a step takes has no part.
func TestP1StepWithManyDraws(t *testing.T) {
	turn, _ := hush.TurnKey(roomy, docKey, "")
	net := "N\x02" + strings.Repeat(layer(0, 0, 2, 3, 16, 5, 1, 2, 3, 4), 2)
	x := begun(t, roomy, net, docKey, turn, numbers(1, 2, 3, 4))
	y := begun(t, roomy, net, docKey, turn, numbers(1, 2, 3, 4))
	for i := range 9 {
		draws := strings.Repeat("\xfe", 10000000)
		if a, b := told(x, draws), told(y, draws[:20]); a != b {
			t.Errorf("step %d: %x, with fewer draws %x", i, a, b)
		}
	}
}

// finish takes all steps of a session and tells whether they were OK.
func finish(t *testing.T, r *rand.Rand, p api.Params, x *hush.Session, layers int) bool {
	t.Helper()
	for i := range 4 * layers {
		_, e := x.Step(stepDraws(r, p))
		if e == api.ErrNoise && i%4 == 1 {
			return false
		}
		if e != api.OK {
			t.Fatalf("step %d: %d", i, e)
		}
	}
	return true
}

func TestP15OutputIsPlain(t *testing.T) {
	r := rand.New(rand.NewSource(23))
	for _, p := range netParams() {
		var done [4]int
		for range 300 {
			count := 1 + r.Intn(3)
			net, key, input := someNet(r, p, count), someKey(r, p), below(r, p.N, p.T)
			turn, _ := hush.TurnKey(p, key, drawsFor(r, p, slowDigits(p)))
			x := begun(t, p, netText(net), key, turn, numbers(input...))
			if !finish(t, r, p, x, count) {
				continue
			}
			done[count]++
			want, f := hush.Plain(p, netText(net), numbers(input...))
			s, e := x.Output()
			if s != want || e != api.OK || f != api.OK || s != numbers(slowPlain(p, net, input)...) {
				t.Errorf("%+v, %d layers: Output %x (%d), Plain %x (%d)", p, count, s, e, want, f)
			}
		}
		if min(done[1], done[2], done[3]) < 20 {
			t.Errorf("%+v: sessions of one, two and three layers that came to their end: %v", p, done[1:])
		}
	}
}

// Each of a hundred inputs of a net with every layer there is room for: the
// output does not hang on the draws.
func TestP15WhateverTheDraws(t *testing.T) {
	r := rand.New(rand.NewSource(24))
	for range 100 {
		var net []one
		for range 3 {
			net = append(net, one{r.Intn(2), r.Intn(4), below(r, 4, 17), below(r, 4, 17)})
		}
		key, input := someKey(r, roomy), below(r, 4, 17)
		want := numbers(slowPlain(roomy, net, input)...)
		for range 10 {
			turn, _ := hush.TurnKey(roomy, key, drawsFor(r, roomy, slowDigits(roomy)))
			x := begun(t, roomy, netText(net), key, turn, numbers(input...))
			if !finish(t, r, roomy, x, 3) {
				t.Fatalf("no room for %v", net)
			}
			s, e := x.Output()
			wantText(t, "Output", s, e, want)
		}
	}
}

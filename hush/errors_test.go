package hush_test

import (
	"strings"
	"testing"

	"hush/api"
	"hush/hush"
)

// answer: what a call answers; text stands for every result but the error.
type answer struct {
	call string
	text string
	e    api.Errno
}

// callAll makes every call that has parameters, with the same text for every
// other argument.
func callAll(p api.Params, s string) []answer {
	var l []answer
	note := func(call string, text string, e api.Errno) { l = append(l, answer{call, text, e}) }
	two := func(call string) func(string, api.Errno) {
		return func(text string, e api.Errno) { note(call, text, e) }
	}
	note("Check", "", hush.Check(p))
	two("Decode")(hush.Decode(p, s))
	two("Encode")(hush.Encode(p, s))
	two("Key")(hush.Key(p, s))
	two("Encrypt")(hush.Encrypt(p, s, s, s))
	two("Decrypt")(hush.Decrypt(p, s, s))
	two("Add")(hush.Add(p, s, s))
	two("AddPlain")(hush.AddPlain(p, s, s))
	two("MulPlain")(hush.MulPlain(p, s, s))
	two("TurnKey")(hush.TurnKey(p, s, s))
	two("Turn")(hush.Turn(p, s, s))
	two("Linear")(hush.Linear(p, s, s, s, s, s))
	two("Bend")(hush.Bend(p, s, s, s, s))
	two("Plain")(hush.Plain(p, s, s))
	bound, e := hush.Bound(p, s)
	note("Bound", strings.Repeat("|", bound), e)
	session, e := hush.New(p, s, s, s, s)
	text := ""
	if session != nil {
		text = "a session"
	}
	note("New", text, e)
	return l
}

func TestP1ParametersAheadOfAllElse(t *testing.T) {
	for _, p := range notGood() {
		for _, s := range []string{"", "K\x00\x01\x02\x00", numbers(1, 1, 1, 1), "\xff"} {
			for _, a := range callAll(p, s) {
				if a.e != api.ErrParam || a.text != "" {
					t.Errorf("%s with %+v and %x: %x, %d, want ErrParam alone", a.call, p, s, a.text, a.e)
				}
			}
		}
	}
}

func TestP1AnErrorComesAlone(t *testing.T) {
	for _, s := range wrongNumbers(doc) {
		for _, a := range callAll(doc, s) {
			if a.e != api.OK && a.text != "" {
				t.Errorf("%s of %d bytes: error %d beside %x", a.call, len(s), a.e, a.text)
			}
		}
	}
}

func TestP1NoCallPanics(t *testing.T) {
	edges := func(more ...int) []int {
		return append([]int{leastInt, leastInt + 1, -1, 0, 1, 2, greatestInt - 1, greatestInt}, more...)
	}
	texts := []string{"", "\x00", numbers(16, 16, 16, 16), strings.Repeat("\xff", 33)}
	for _, n := range edges(4, 8, 16) {
		for _, m := range edges(17, 97, 1009, 1<<32+1) {
			for _, q := range edges(357, 1<<30-1, 1<<30, 1<<62) {
				for _, b := range edges(4, 8, 64) {
					for _, s := range texts {
						callAll(api.Params{N: n, T: m, Q: q, B: b}, s)
					}
				}
			}
		}
	}
}

func TestP1TextsOfAnyLength(t *testing.T) {
	for _, p := range []api.Params{doc, {N: 16, T: 97, Q: 1<<30 - 1, B: 8}} {
		for length := 0; length < 300; length++ {
			callAll(p, strings.Repeat("\x00", length))
			callAll(p, strings.Repeat("\xff", length))
		}
		callAll(p, strings.Repeat("\x01", 20000000))
	}
}

func TestP1AnswersHangOnArgumentsAlone(t *testing.T) {
	texts := []string{"", numbers(1, 2, 3, 4), numbers(1, 2, 3, 17), numbers(9, 8, 7, 6, 5, 4, 3, 2)}
	good := allGood()
	var first [][]answer
	for _, p := range good {
		for _, s := range texts {
			first = append(first, callAll(p, s))
		}
	}
	for i := len(first) - 1; i >= 0; i-- {
		p, s := good[i/len(texts)], texts[i%len(texts)]
		again := callAll(p, s)
		for k, a := range first[i] {
			if a != again[k] {
				t.Errorf("%s with %+v and %x: %v, then %v", a.call, p, s, a, again[k])
			}
		}
	}
}

package cipher

import (
	"slices"
	"strings"
	"testing"

	"hush/api"
)

func samePair(a Pair, b Pair) bool {
	return slices.Equal(a.K0, b.K0) && slices.Equal(a.K1, b.K1)
}

// somePairs: a turning key of three digits, and its text.
func somePairs() ([]Pair, string) {
	var turn []Pair
	text := "R"
	for i := range 3 {
		turn = append(turn, Pair{K0: []int{i, 0, 0, 258}, K1: []int{1000002, 0, i, 0}})
		text += "\x00\x00\x00" + string([]byte{byte(i)}) + strings.Repeat("\x00", 8) + "\x00\x00\x01\x02"
		text += "\x00\x0f\x42\x42" + strings.Repeat("\x00", 7) + string([]byte{byte(i)}) + strings.Repeat("\x00", 4)
	}
	return turn, text
}

func TestWriteAndReadTurnKey(t *testing.T) {
	p := api.Params{N: 4, T: 17, Q: 1000003, B: 8}
	turn, text := somePairs()
	if s := WriteTurnKey(turn); s != text {
		t.Errorf("WriteTurnKey = %x, want %x", s, text)
	}
	if l, ok := ReadTurnKey(p, text); !ok || !slices.EqualFunc(l, turn, samePair) {
		t.Errorf("ReadTurnKey = %v, %v", l, ok)
	}
	for length := range len(text) {
		if l, ok := ReadTurnKey(p, text[:length]); ok || l != nil {
			t.Errorf("ReadTurnKey of %d bytes = %v, %v", length, l, ok)
		}
	}
	if l, ok := ReadTurnKey(p, text+"\x00"); ok || l != nil {
		t.Errorf("ReadTurnKey of a byte more = %v, %v", l, ok)
	}
}

func TestTurnChangesNothing(t *testing.T) {
	p := api.Params{N: 4, T: 17, Q: 1000003, B: 8}
	turn, _ := somePairs()
	same, _ := somePairs()
	if _, ok := Turn(p, some(), turn); !ok || !slices.EqualFunc(turn, same, samePair) {
		t.Errorf("the turning key is now %v, %v", turn, ok)
	}
	s := []int{-1, 0, 1, -1}
	TurnKey(p, s, "draws")
	if !slices.Equal(s, []int{-1, 0, 1, -1}) {
		t.Errorf("s is now %v", s)
	}
}

func TestSplit(t *testing.T) {
	low, high := split([]int{0x321, 0xf, 0x10, 0}, 16)
	if !slices.Equal(low, []int{1, 15, 0, 0}) || !slices.Equal(high, []int{0x32, 0, 1, 0}) {
		t.Errorf("split = %v, %v", low, high)
	}
	if low, high := split([]int{1}, 0); low != nil || high != nil {
		t.Errorf("split by 0 = %v, %v", low, high)
	}
}

func TestTurnNoise(t *testing.T) {
	if v := turnNoise(doc); v != 600 {
		t.Errorf("turnNoise = %d", v)
	}
}

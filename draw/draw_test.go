package draw

import (
	"slices"
	"strings"
	"testing"

	"hush/api"
)

func TestByte(t *testing.T) {
	for i, want := range []int{7, 255, 0, 0} {
		if d := Byte("\x07\xff", i); d != want {
			t.Errorf("byte %d is %d", i, d)
		}
	}
	for _, i := range []int{-1, -1 << 63, 1<<63 - 1} {
		if d := Byte("\x07\xff", i); d != 0 {
			t.Errorf("byte %d is %d", i, d)
		}
	}
}

func TestPair(t *testing.T) {
	p := api.Params{N: 4, T: 17, Q: 1000003, B: 4}
	for _, c := range []struct {
		draws string
		a, e  []int
	}{
		{"", []int{0, 0, 0, 0}, []int{-2, -2, -2, -2}},
		// The draws end inside of a number: noughts are its last bytes.
		{"\x00\x00\x00\x01\x00\x02", []int{1, 0x20000, 0, 0}, []int{-2, -2, -2, -2}},
		{"\x00\x0f\x42\x42\x00\x0f\x42\x43\xff\xff\xff\xff\x00\x01\x00\x00" + "\x00\x04\x05\xff",
			[]int{1000002, 0, (1<<32 - 1) % 1000003, 65536}, []int{-2, 2, -2, -2}},
		{strings.Repeat("\x00", 16) + "\x01\x02\x03\xfe" + "\x09\x09", []int{0, 0, 0, 0}, []int{-1, 0, 1, 2}},
	} {
		a, e := Pair(p, c.draws, 0)
		if !slices.Equal(a, c.a) || !slices.Equal(e, c.e) {
			t.Errorf("Pair(%x) = %v, %v, want %v, %v", c.draws, a, e, c.a, c.e)
		}
	}
}

// The next pairs begin 20 bytes and 40 bytes behind.
func TestPairsBehind(t *testing.T) {
	p := api.Params{N: 4, T: 17, Q: 1000003, B: 4}
	draws := strings.Repeat("\xff", 20) + strings.Repeat("\x00\x00\x00\x07", 4) + "\x00\x01\x02\x03" + "\x00\x00\x01"
	for _, c := range []struct {
		which int
		a, e  []int
	}{
		{1, []int{7, 7, 7, 7}, []int{-2, -1, 0, 1}},
		{2, []int{256, 0, 0, 0}, []int{-2, -2, -2, -2}},
		{3, []int{0, 0, 0, 0}, []int{-2, -2, -2, -2}},
		{1 << 50, []int{0, 0, 0, 0}, []int{-2, -2, -2, -2}},
	} {
		a, e := Pair(p, draws, c.which)
		if !slices.Equal(a, c.a) || !slices.Equal(e, c.e) {
			t.Errorf("pair %d = %v, %v, want %v, %v", c.which, a, e, c.a, c.e)
		}
	}
}

// Modulo T alone: Q has no part in a mask.
func TestMask(t *testing.T) {
	p := api.Params{N: 4, T: 17, Q: 400, B: 4}
	for _, c := range []struct {
		draws string
		mask  []int
	}{
		{"", []int{0, 0, 0, 0}},
		{"\x00\x01\x00\x10\x00\x11\x00\x12", []int{1, 16, 0, 1}},
		{"\xff\xff\xff\xfe\x01\x00\x01\x01", []int{0, 16, 1, 2}},
		// The draws end inside of a number: a nought is its last byte.
		{"\x00\x05\x01", []int{5, 1, 0, 0}},
		{"\x00\x05\x00\x06\x00\x07\x00\x08\x00\x09", []int{5, 6, 7, 8}},
	} {
		if mask := Mask(p, c.draws); !slices.Equal(mask, c.mask) {
			t.Errorf("Mask(%x) = %v, want %v", c.draws, mask, c.mask)
		}
	}
	if mask := Mask(api.Params{N: 4}, "draws"); mask != nil {
		t.Errorf("Mask modulo 0 = %v", mask)
	}
}

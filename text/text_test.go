package text

import (
	"slices"
	"testing"
)

func TestNumbers(t *testing.T) {
	for _, c := range []struct {
		s            string
		count, limit int
		list         []int
		ok           bool
	}{
		{"", 0, 5, nil, true},
		{"\x00\x04\x01\x02", 2, 259, []int{4, 258}, true},
		{"\x00\x04\x01\x02", 2, 258, nil, false},
		{"\x01\x02\x00\x04", 2, 258, nil, false},
		{"\xff\xff", 1, 65536, []int{65535}, true},
		{"\x00\x04\x01", 1, 259, nil, false},
		{"\x00\x04\x01", 2, 259, nil, false},
		{"\x00\x04", 2, 259, nil, false},
		{"\x00\x04", 0, 259, nil, false},
		{"", -1, 259, nil, false},
		{"", -1 << 63, 259, nil, false},
	} {
		list, ok := Numbers(c.s, c.count, c.limit)
		if !slices.Equal(list, c.list) || ok != c.ok {
			t.Errorf("Numbers(%x, %d, %d) = %v, %v", c.s, c.count, c.limit, list, ok)
		}
	}
}

func TestWrite(t *testing.T) {
	if s := Write(nil); s != "" {
		t.Errorf("Write of nothing: %x", s)
	}
	if s := Write([]int{0, 1, 258, 65535}); s != "\x00\x00\x00\x01\x01\x02\xff\xff" {
		t.Errorf("Write: %x", s)
	}
}

func TestDrawn(t *testing.T) {
	for i, want := range []int{7, 255, 0, 0} {
		if d := Drawn("\x07\xff", i); d != want {
			t.Errorf("Drawn: byte %d is %d", i, d)
		}
	}
	if d := Drawn("\x07\xff", -1); d != 0 {
		t.Errorf("Drawn: ahead of the first byte there is %d", d)
	}
}

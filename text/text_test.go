package text

import (
	"slices"
	"testing"
)

func TestNumbers(t *testing.T) {
	for _, c := range []struct {
		s                   string
		width, count, limit int
		list                []int
		ok                  bool
	}{
		{"", 2, 0, 5, nil, true},
		{"\x00\x04\x01\x02", 2, 2, 259, []int{4, 258}, true},
		{"\x00\x04\x01\x02", 2, 2, 258, nil, false},
		{"\x01\x02\x00\x04", 2, 2, 258, nil, false},
		{"\xff\xff", 2, 1, 65536, []int{65535}, true},
		{"\x00\x04\x01", 2, 1, 259, nil, false},
		{"\x00\x04\x01", 2, 2, 259, nil, false},
		{"\x00\x04", 2, 2, 259, nil, false},
		{"\x00\x04", 2, 0, 259, nil, false},
		{"", 2, -1, 259, nil, false},
		{"", 2, -1 << 63, 259, nil, false},
		{"\x01\x02\x03\x04\xff\xff\xff\xfe", 4, 2, 1<<32 - 1, []int{0x01020304, 1<<32 - 2}, true},
		{"\x01\x02\x03\x04\xff\xff\xff\xfe", 4, 2, 1<<32 - 2, nil, false},
		{"\x01\x02\x03\x04\xff\xff", 4, 1, 1 << 32, nil, false},
		{"\x01\x02", 4, 0, 1 << 32, nil, false},
		{"", 0, 0, 5, nil, false},
		{"\x01", -1, -1, 5, nil, false},
		{"", 1<<63 - 1, 0, 5, nil, true},
	} {
		list, ok := Numbers(c.s, c.width, c.count, c.limit)
		if !slices.Equal(list, c.list) || ok != c.ok {
			t.Errorf("Numbers(%x, %d, %d, %d) = %v, %v", c.s, c.width, c.count, c.limit, list, ok)
		}
	}
}

func TestNumber(t *testing.T) {
	for _, c := range []struct {
		s string
		v int
	}{
		{"", 0}, {"\x07", 7}, {"\x01\x00", 256}, {"\x00\x01", 1}, {"\xff\xff\xff\xff\xff", 1<<40 - 1},
	} {
		if v := Number(c.s); v != c.v {
			t.Errorf("Number(%x) = %d", c.s, v)
		}
	}
}

func TestWrite(t *testing.T) {
	for _, c := range []struct {
		list  []int
		width int
		s     string
	}{
		{nil, 2, ""},
		{[]int{0, 1, 258, 65535}, 2, "\x00\x00\x00\x01\x01\x02\xff\xff"},
		{[]int{1, 0x01020304}, 4, "\x00\x00\x00\x01\x01\x02\x03\x04"},
		{[]int{1<<40 - 2}, 5, "\xff\xff\xff\xff\xfe"},
	} {
		if s := Write(c.list, c.width); s != c.s {
			t.Errorf("Write(%v, %d) = %x", c.list, c.width, s)
		}
	}
}

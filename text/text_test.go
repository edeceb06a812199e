package text

import (
	"slices"
	"testing"
)

func TestNumbers(t *testing.T) {
	for _, c := range []struct {
		s                   string
		width, count, limit int
		list                []int
		ok                  bool
	}{
		{"", 2, 0, 5, nil, true},
		{"\x00\x04\x01\x02", 2, 2, 259, []int{4, 258}, true},
		{"\x00\x04\x01\x02", 2, 2, 258, nil, false},
		{"\x01\x02\x00\x04", 2, 2, 258, nil, false},
		{"\xff\xff", 2, 1, 65536, []int{65535}, true},
		{"\x00\x04\x01", 2, 1, 259, nil, false},
		{"\x00\x04\x01", 2, 2, 259, nil, false},
		{"\x00\x04", 2, 2, 259, nil, false},
		{"\x00\x04", 2, 0, 259, nil, false},
		{"", 2, -1, 259, nil, false},
		{"", 2, -1 << 63, 259, nil, false},
		{"\x01\x02\x03\x04\xff\xff\xff\xfe", 4, 2, 1<<32 - 1, []int{0x01020304, 1<<32 - 2}, true},
		{"\x01\x02\x03\x04\xff\xff\xff\xfe", 4, 2, 1<<32 - 2, nil, false},
		{"\x01\x02\x03\x04\xff\xff", 4, 1, 1 << 32, nil, false},
		{"\x01\x02", 4, 0, 1 << 32, nil, false},
		{"", 0, 0, 5, nil, false},
		{"\x01", -1, -1, 5, nil, false},
		{"", 1<<63 - 1, 0, 5, nil, true},
	} {
		list, ok := Numbers(c.s, c.width, c.count, c.limit)
		if !slices.Equal(list, c.list) || ok != c.ok {
			t.Errorf("Numbers(%x, %d, %d, %d) = %v, %v", c.s, c.width, c.count, c.limit, list, ok)
		}
	}
}

func TestNumber(t *testing.T) {
	for _, c := range []struct {
		s string
		v int
	}{
		{"", 0}, {"\x07", 7}, {"\x01\x00", 256}, {"\x00\x01", 1}, {"\xff\xff\xff\xff\xff", 1<<40 - 1},
	} {
		if v := Number(c.s); v != c.v {
			t.Errorf("Number(%x) = %d", c.s, v)
		}
	}
}

func TestWrite(t *testing.T) {
	for _, c := range []struct {
		list  []int
		width int
		s     string
	}{
		{nil, 2, ""},
		{[]int{0, 1, 258, 65535}, 2, "\x00\x00\x00\x01\x01\x02\xff\xff"},
		{[]int{1, 0x01020304}, 4, "\x00\x00\x00\x01\x01\x02\x03\x04"},
		{[]int{1<<40 - 2}, 5, "\xff\xff\xff\xff\xfe"},
	} {
		if s := Write(c.list, c.width); s != c.s {
			t.Errorf("Write(%v, %d) = %x", c.list, c.width, s)
		}
	}
}

func TestLists(t *testing.T) {
	for _, c := range []struct {
		s                         string
		width, size, count, limit int
		lists                     [][]int
		ok                        bool
	}{
		{"\x01\x02\x03\x04\x05\x06", 1, 3, 2, 7, [][]int{{1, 2, 3}, {4, 5, 6}}, true},
		{"\x01\x02\x03\x04\x05\x06", 1, 2, 3, 7, [][]int{{1, 2}, {3, 4}, {5, 6}}, true},
		{"\x01\x02", 1, 1, 2, 7, [][]int{{1}, {2}}, true},
		{"\x01\x02\x03\x04\x05\x06", 2, 3, 1, 65536, [][]int{{0x102, 0x304, 0x506}}, true},
		{"\x01\x02\x03\x04\x05\x06", 1, 3, 2, 6, nil, false},
		{"\x06\x02\x03\x04\x05\x01", 1, 3, 2, 6, nil, false},
		{"\x01\x02\x03\x04\x05\x06", 1, 3, 1, 7, nil, false},
		{"\x01\x02\x03\x04\x05\x06", 1, 3, 3, 7, nil, false},
		{"\x01\x02\x03\x04\x05", 1, 3, 1, 7, nil, false},
		{"\x01\x02\x03\x04\x05", 1, 3, 2, 7, nil, false},
		{"", 1, 3, 0, 7, nil, true},
		{"", 1, 3, 1, 7, nil, false},
		{"", 1, 0, 0, 7, nil, false},
		{"\x01", 0, 1, 1, 7, nil, false},
		{"\x01", 1, -1, -1, 7, nil, false},
		{"\x01", -1, -1, 1, 7, nil, false},
	} {
		lists, ok := Lists(c.s, c.width, c.size, c.count, c.limit)
		if !slices.EqualFunc(lists, c.lists, slices.Equal[[]int]) || ok != c.ok {
			t.Errorf("Lists(%x, %d, %d, %d, %d) = %v, %v", c.s, c.width, c.size, c.count, c.limit, lists, ok)
		}
	}
}

// To make one list longer leaves the next one as it is.
func TestListsShareNothing(t *testing.T) {
	lists, _ := Lists("\x01\x02\x03\x04", 1, 2, 2, 7)
	longer := append(lists[0], 5)
	longer[0] = 6
	if !slices.Equal(lists[1], []int{3, 4}) {
		t.Errorf("the second list is now %v", lists[1])
	}
}

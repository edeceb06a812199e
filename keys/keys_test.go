package keys

import (
	"slices"
	"testing"
)

func TestMake(t *testing.T) {
	for _, c := range []struct {
		n          int
		draws, key string
	}{
		{4, "\x00\x01\x02\x03", "K\x00\x01\x02\x00"},
		{4, "", "K\x00\x00\x00\x00"},
		{2, "\xff\xfe\xfd", "K\x00\x02"},
	} {
		if k := Make(c.n, c.draws); k != c.key {
			t.Errorf("Make(%d, %x) = %x, want %x", c.n, c.draws, k, c.key)
		}
	}
}

func TestRead(t *testing.T) {
	for _, c := range []struct {
		n   int
		key string
		s   []int
		ok  bool
	}{
		{4, "K\x00\x01\x02\x00", []int{-1, 0, 1, -1}, true},
		{2, "K\x02\x02", []int{1, 1}, true},
		{4, "", nil, false},
		{-1, "", nil, false},
		{4, "K", nil, false},
		{4, "k\x00\x01\x02\x00", nil, false},
		{4, "K\x00\x01\x02", nil, false},
		{4, "K\x00\x01\x02\x00\x00", nil, false},
		{4, "K\x03\x01\x02\x00", nil, false},
		{4, "K\x00\x01\x02\xff", nil, false},
	} {
		if s, ok := Read(c.n, c.key); !slices.Equal(s, c.s) || ok != c.ok {
			t.Errorf("Read(%d, %x) = %v, %v", c.n, c.key, s, ok)
		}
	}
}

package keys

import "testing"

func TestMake(t *testing.T) {
	for _, c := range []struct {
		n          int
		draws, key string
	}{
		{4, "\x00\x01\x02\x03", "K\x00\x01\x02\x00"},
		{4, "", "K\x00\x00\x00\x00"},
		{2, "\xff\xfe\xfd", "K\x00\x02"},
	} {
		if k := Make(c.n, c.draws); k != c.key {
			t.Errorf("Make(%d, %x) = %x, want %x", c.n, c.draws, k, c.key)
		}
	}
}

package hush_test

import (
	"strings"
	"testing"

	"hush/api"
	"hush/hush"
)

func wantKey(t *testing.T, p api.Params, draws string, key string) {
	t.Helper()
	if k, e := hush.Key(p, draws); k != key || e != api.OK {
		t.Errorf("Key(%+v, %.40x) = %x, %d, want %x", p, draws, k, e, key)
	}
}

func TestP4Examples(t *testing.T) {
	wantKey(t, doc, "\x00\x01\x02\x03", "K\x00\x01\x02\x00")
}

func TestP4NoughtsBehindTheEnd(t *testing.T) {
	wantKey(t, doc, "", "K\x00\x00\x00\x00")
	wantKey(t, doc, "\x05", "K\x02\x00\x00\x00")
	wantKey(t, doc, "\x01\x01\x01", "K\x01\x01\x01\x00")
	wantKey(t, api.Params{N: 16, T: 97, Q: 1 << 29, B: 1}, "\x02\x02", "K\x02\x02"+strings.Repeat("\x00", 14))
}

func TestP4DrawsThatAreLeft(t *testing.T) {
	wantKey(t, doc, "\x01\x01\x01\x01\x02", "K\x01\x01\x01\x01")
	wantKey(t, doc, strings.Repeat("\x02", 10000000), "K\x02\x02\x02\x02")
}

func TestP4EveryByte(t *testing.T) {
	for _, n := range []int{4, 8, 16} {
		p := api.Params{N: n, T: 97, Q: 1 << 29, B: 1}
		for first := 0; first < 256; first++ {
			var draws, key []byte
			key = append(key, 'K')
			for i := 0; i < n; i++ {
				b := (first + i) % 256
				draws = append(draws, byte(b))
				key = append(key, byte(b%3))
			}
			wantKey(t, p, string(draws), string(key))
		}
	}
}

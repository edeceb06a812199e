package cipher

import (
	"slices"
	"testing"

	"hush/api"
)

var doc = api.Params{N: 4, T: 17, Q: 1000003, B: 4}

func same(a Cipher, b Cipher) bool {
	return a.Bound == b.Bound && slices.Equal(a.C0, b.C0) && slices.Equal(a.C1, b.C1)
}

func some() Cipher {
	return Cipher{Bound: 258, C0: []int{1, 2, 3, 1000002}, C1: []int{65536, 0, 0, 5}}
}

const someText = "C\x00\x00\x00\x01\x02" +
	"\x00\x00\x00\x01\x00\x00\x00\x02\x00\x00\x00\x03\x00\x0f\x42\x42" +
	"\x00\x01\x00\x00\x00\x00\x00\x00\x00\x00\x00\x00\x00\x00\x00\x05"

func TestWriteAndRead(t *testing.T) {
	if s := Write(some()); s != someText {
		t.Errorf("Write = %x", s)
	}
	if c, ok := Read(doc, someText); !ok || !same(c, some()) {
		t.Errorf("Read = %v, %v", c, ok)
	}
	for length := range len(someText) {
		if c, ok := Read(doc, someText[:length]); ok || !same(c, Cipher{}) {
			t.Errorf("Read of %d bytes = %v, %v", length, c, ok)
		}
	}
	if c, ok := Read(doc, someText+"\x00"); ok || !same(c, Cipher{}) {
		t.Errorf("Read of a byte more = %v, %v", c, ok)
	}
}

// An answer shares no memory with what was handed in: neither changes with the
// other.
func TestNothingIsShared(t *testing.T) {
	values := []int{2, 8, 9, 15}
	for _, call := range []func(c Cipher) (Cipher, bool){
		func(c Cipher) (Cipher, bool) { return Add(doc, c, c) },
		func(c Cipher) (Cipher, bool) { return AddPlain(doc, c, values) },
		func(c Cipher) (Cipher, bool) { return MulPlain(doc, c, values) },
		func(c Cipher) (Cipher, bool) { return Turn(doc, c, nil) },
	} {
		c := some()
		out, ok := call(c)
		if !ok {
			t.Errorf("no answer")
		}
		for i := range out.C0 {
			out.C0[i] = 7
			out.C1[i] = 8
		}
		if !same(c, some()) || !slices.Equal(out.C0, []int{7, 7, 7, 7}) {
			t.Errorf("what was handed in is now %v", c)
		}
	}
	if !slices.Equal(values, []int{2, 8, 9, 15}) {
		t.Errorf("the values are now %v", values)
	}
}

func TestSize(t *testing.T) {
	if s := size([]int{3, -4, 0, 8, -8}); s != 23 {
		t.Errorf("size = %d", s)
	}
}

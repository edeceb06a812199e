package hush_test

import (
	"math/rand"
	"testing"

	"hush/api"
	"hush/hush"
)

// one: what a layer is made of.
type one struct {
	bends, shift int
	matrix, bias []int
}

func (l one) text() string {
	return layer(l.bends, l.shift, append(append([]int{}, l.matrix...), l.bias...)...)
}

// netText: a net as bytes.
func netText(net []one) string {
	s := "N" + string([]byte{byte(len(net))})
	for _, l := range net {
		s += l.text()
	}
	return s
}

// someNet: of some layers of any kind.
func someNet(r *rand.Rand, p api.Params, count int) []one {
	var net []one
	for range count {
		net = append(net, one{r.Intn(2), r.Intn(8) * r.Intn(2), someMatrix(r, p), below(r, p.N, p.T)})
	}
	return net
}

// slowPlain: what a net makes of an input, as the words go.
func slowPlain(p api.Params, net []one, input []int) []int {
	for _, l := range net {
		sums := bySlot(p, slowMatrix(p, l.matrix, input), l.bias, false)
		input = make([]int, p.N)
		for i, v := range sums {
			input[i] = slowBend(p, l.bends, l.shift, v, 0)
		}
	}
	return input
}

// The matrix 2 3, -1 5 makes 8 9, 18 17 of 1 2, 3 4; with the bias 9 11, 4 4:
// centred -8 -6, 4 4.
func TestP12ByHand(t *testing.T) {
	first := layer(1, 1, 2, 3, 16, 5, 1, 2, 3, 4)
	straight := layer(0, 2, 2, 3, 16, 5, 1, 2, 3, 4)
	swap := layer(0, 0, 0, 1, 1, 0, 0, 0, 16, 16)
	input := numbers(1, 2, 3, 4)
	for _, c := range []struct{ net, want string }{
		{"N\x01" + first, numbers(0, 0, 2, 2)},
		{"N\x01" + straight, numbers(15, 15, 1, 1)},
		{"N\x01" + swap, numbers(2, 1, 3, 2)},
		{"N\x02" + first + swap, numbers(0, 0, 1, 1)},
		// 2 1, 3 2: 7 3, 12 7, and the bias: 8 5, 15 11; centred 8 5, -2 -6.
		{"N\x02" + swap + first, numbers(4, 2, 0, 0)},
		{"N\x02" + swap + straight, numbers(2, 1, 16, 15)},
		{"N\x03" + swap + swap + swap, numbers(2, 1, 1, 0)},
		{"N\x03" + swap + first + swap, numbers(2, 4, 16, 16)},
		// 4 2, 0 0: 14 6, 0 0, and the bias: 15 8, 3 4; centred -2 8, 3 4.
		{"N\x03" + swap + first + first, numbers(0, 4, 1, 2)},
	} {
		s, e := hush.Plain(doc, c.net, input)
		wantText(t, "Plain", s, e, c.want)
	}
}

func TestP12AsTheWordsGo(t *testing.T) {
	r := rand.New(rand.NewSource(19))
	for _, p := range append(mixedParams(), netParams()...) {
		for count := 1; count <= 3; count++ {
			for range 50 {
				net, input := someNet(r, p, count), below(r, p.N, p.T)
				s, e := hush.Plain(p, netText(net), numbers(input...))
				wantText(t, "Plain", s, e, numbers(slowPlain(p, net, input)...))
			}
		}
	}
}

// The greatest numbers everywhere, with every N and every T that go together.
func TestP12GreatestNumbers(t *testing.T) {
	for _, p := range allGood() {
		most := func(n int) []int {
			l := make([]int, n)
			for i := range l {
				l[i] = p.T - 1
			}
			return l
		}
		for kind := range 16 {
			l := one{kind % 2, kind / 2, most(p.N / 2 * p.N / 2), most(p.N)}
			net := []one{l, l, l}
			s, e := hush.Plain(p, netText(net), numbers(most(p.N)...))
			wantText(t, "Plain", s, e, numbers(slowPlain(p, net, most(p.N))...))
		}
	}
}

package layers

import "hush/api"

// netHead is how many bytes of a net there are ahead of its layers.
const netHead = 2

// ReadNet gives the layers of the net that a text is; it answers false if it is
// none.
func ReadNet(p api.Params, s string) ([]Layer, bool) {
	if len(s) < netHead || s[0] != 'N' {
		return nil, false
	}
	count := int(s[1])
	if count < 1 || count > api.MaxLayers {
		return nil, false
	}
	size := length(p)
	if size < 1 || len(s)-netHead != count*size {
		return nil, false
	}
	var net []Layer
	for i := netHead; i <= len(s)-size; i += size {
		l, ok := Read(p, s[i:i+size])
		if !ok {
			return nil, false
		}
		net = append(net, l)
	}
	return net, true
}

// length is how many bytes a layer has.
func length(p api.Params) int {
	d := p.N / 2
	return head + 2*d*d + 2*p.N
}

// Plain gives what a net makes of an input, with nothing hidden.
func Plain(p api.Params, net []Layer, input []int) []int {
	zero := make([]int, len(input))
	values := append([]int{}, input...)
	for _, l := range net {
		values = weighed(p, l, values)
		values = Bend(p, l, values, zero, zero)
	}
	return values
}

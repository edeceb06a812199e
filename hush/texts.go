package hush

import (
	"hush/api"
	"hush/cipher"
	"hush/param"
	"hush/text"
)

// readValues reads N numbers below T: values, or the coefficients of a
// polynomial.
func readValues(p api.Params, values string) ([]int, bool) {
	return text.Numbers(values, 2, p.N, p.T)
}

// writeValues is the text that readValues reads.
func writeValues(values []int) string {
	return text.Write(values, 2)
}

// readBoth reads the arguments of the calls on a ciphertext and values, and
// tells what is wrong with the first one that is not what it must be.
func readBoth(p api.Params, c string, values string) (cipher.Cipher, []int, api.Errno) {
	if !param.Good(p) {
		return cipher.Cipher{}, nil, api.ErrParam
	}
	hidden, ok := cipher.Read(p, c)
	if !ok {
		return cipher.Cipher{}, nil, api.ErrForm
	}
	slots, ok := readValues(p, values)
	if !ok {
		return cipher.Cipher{}, nil, api.ErrValue
	}
	return hidden, slots, api.OK
}

// writeCipher is the text of a ciphertext that came out of others, unless its
// bound does not fit.
func writeCipher(c cipher.Cipher, fits bool) (string, api.Errno) {
	if !fits {
		return "", api.ErrNoise
	}
	return cipher.Write(c), api.OK
}

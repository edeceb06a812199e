// Package hush: small nets over numbers that stay hidden: see DOC.md.
package hush

import (
	"hush/api"
	"hush/cipher"
	"hush/keys"
	"hush/layers"
	"hush/param"
	"hush/slot"
)

// Check tells whether parameters are good (P2).
func Check(p api.Params) api.Errno {
	if !param.Good(p) {
		return api.ErrParam
	}
	return api.OK
}

// Decode gives the slots of a polynomial (P3).
func Decode(p api.Params, poly string) (string, api.Errno) {
	if !param.Good(p) {
		return "", api.ErrParam
	}
	coefficients, ok := readValues(p, poly)
	if !ok {
		return "", api.ErrValue
	}
	slots := slot.Decode(p, coefficients)
	return writeValues(slots), api.OK
}

// Encode gives the polynomial with some slots (P3).
func Encode(p api.Params, values string) (string, api.Errno) {
	if !param.Good(p) {
		return "", api.ErrParam
	}
	slots, ok := readValues(p, values)
	if !ok {
		return "", api.ErrValue
	}
	coefficients := slot.Encode(p, slots)
	return writeValues(coefficients), api.OK
}

// Key makes a key (P4).
func Key(p api.Params, draws string) (string, api.Errno) {
	if !param.Good(p) {
		return "", api.ErrParam
	}
	return keys.Make(p.N, draws), api.OK
}

// Encrypt hides values (P5).
func Encrypt(p api.Params, key string, values string, draws string) (string, api.Errno) {
	if !param.Good(p) {
		return "", api.ErrParam
	}
	s, ok := keys.Read(p.N, key)
	if !ok {
		return "", api.ErrForm
	}
	slots, ok := readValues(p, values)
	if !ok {
		return "", api.ErrValue
	}
	hidden := cipher.Encrypt(p, s, slots, draws)
	return cipher.Write(hidden), api.OK
}

// Decrypt opens a ciphertext (P6).
func Decrypt(p api.Params, key string, c string) (string, api.Errno) {
	if !param.Good(p) {
		return "", api.ErrParam
	}
	s, ok := keys.Read(p.N, key)
	if !ok {
		return "", api.ErrForm
	}
	hidden, ok := cipher.Read(p, c)
	if !ok {
		return "", api.ErrForm
	}
	slots := cipher.Decrypt(p, s, hidden)
	return writeValues(slots), api.OK
}

// Bound tells a ciphertext's bound (P6).
func Bound(p api.Params, c string) (int, api.Errno) {
	if !param.Good(p) {
		return 0, api.ErrParam
	}
	hidden, ok := cipher.Read(p, c)
	if !ok {
		return 0, api.ErrForm
	}
	return hidden.Bound, api.OK
}

// Add adds two ciphertexts (P7).
func Add(p api.Params, a string, b string) (string, api.Errno) {
	if !param.Good(p) {
		return "", api.ErrParam
	}
	first, ok := cipher.Read(p, a)
	if !ok {
		return "", api.ErrForm
	}
	second, ok := cipher.Read(p, b)
	if !ok {
		return "", api.ErrForm
	}
	sum, fits := cipher.Add(p, first, second)
	return writeCipher(sum, fits)
}

// AddPlain adds values to a ciphertext (P7).
func AddPlain(p api.Params, c string, values string) (string, api.Errno) {
	hidden, slots, errno := readBoth(p, c, values)
	if errno != api.OK {
		return "", errno
	}
	sum, fits := cipher.AddPlain(p, hidden, slots)
	return writeCipher(sum, fits)
}

// MulPlain multiplies a ciphertext by values (P8).
func MulPlain(p api.Params, c string, values string) (string, api.Errno) {
	hidden, slots, errno := readBoth(p, c, values)
	if errno != api.OK {
		return "", errno
	}
	product, fits := cipher.MulPlain(p, hidden, slots)
	return writeCipher(product, fits)
}

// TurnKey makes a turning key (P9).
func TurnKey(p api.Params, key string, draws string) (string, api.Errno) {
	if !param.Good(p) {
		return "", api.ErrParam
	}
	s, ok := keys.Read(p.N, key)
	if !ok {
		return "", api.ErrForm
	}
	turn := cipher.TurnKey(p, s, draws)
	return cipher.WriteTurnKey(turn), api.OK
}

// Turn turns the slots of a ciphertext (P9).
func Turn(p api.Params, c string, turn string) (string, api.Errno) {
	if !param.Good(p) {
		return "", api.ErrParam
	}
	hidden, ok := cipher.Read(p, c)
	if !ok {
		return "", api.ErrForm
	}
	pairs, ok := cipher.ReadTurnKey(p, turn)
	if !ok {
		return "", api.ErrForm
	}
	turned, fits := cipher.Turn(p, hidden, pairs)
	return writeCipher(turned, fits)
}

// Linear works out the first part of a layer, hidden (P10).
func Linear(p api.Params, layer string, c string, share string, mask string, turn string) (string, api.Errno) {
	if !param.Good(p) {
		return "", api.ErrParam
	}
	l, ok := layers.Read(p, layer)
	if !ok {
		return "", api.ErrForm
	}
	hidden, shareSlots, errno := readBoth(p, c, share)
	if errno != api.OK {
		return "", errno
	}
	maskSlots, ok := readValues(p, mask)
	if !ok {
		return "", api.ErrValue
	}
	pairs, ok := cipher.ReadTurnKey(p, turn)
	if !ok {
		return "", api.ErrForm
	}
	answer, fits := layers.Linear(p, l, hidden, shareSlots, maskSlots, pairs)
	return writeCipher(answer, fits)
}

// Bend works out the second part of a layer, on shares (P11).
func Bend(p api.Params, layer string, a string, b string, mask string) (string, api.Errno) {
	if !param.Good(p) {
		return "", api.ErrParam
	}
	l, ok := layers.Read(p, layer)
	if !ok {
		return "", api.ErrForm
	}
	first, ok := readValues(p, a)
	if !ok {
		return "", api.ErrValue
	}
	second, ok := readValues(p, b)
	if !ok {
		return "", api.ErrValue
	}
	maskSlots, ok := readValues(p, mask)
	if !ok {
		return "", api.ErrValue
	}
	bent := layers.Bend(p, l, first, second, maskSlots)
	return writeValues(bent), api.OK
}

// Plain works out a net in the open (P12).
func Plain(p api.Params, net string, input string) (string, api.Errno) {
	if !param.Good(p) {
		return "", api.ErrParam
	}
	all, ok := layers.ReadNet(p, net)
	if !ok {
		return "", api.ErrForm
	}
	slots, ok := readValues(p, input)
	if !ok {
		return "", api.ErrValue
	}
	values := layers.Plain(p, all, slots)
	return writeValues(values), api.OK
}

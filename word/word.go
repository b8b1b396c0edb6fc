// Package word is layer 1: see shared/doc/01-word.md.
package word

import (
	"math/bits"

	"tallystick/api"
)

// maxSteps is enough for any two words: the first of Euclid's steps may only put them in order, and any two steps after it take a bit or more off the greater one.
const maxSteps = 1 + 2*64

// Add is a sum, and what is carried.
func Add(a, b, c uint64) (uint64, uint64) {
	return bits.Add64(a, b, unit(c))
}

// Sub is a difference, and what is borrowed.
func Sub(a, b, c uint64) (uint64, uint64) {
	return bits.Sub64(a, b, unit(c))
}

// unit is needed since package bits says nothing of a carry that is neither 0 nor 1.
func unit(c uint64) uint64 {
	if c != 0 {
		return 1
	}
	return 0
}

// Mul is a product, its upper part and its lower one.
func Mul(a, b uint64) (uint64, uint64) {
	return bits.Mul64(a, b)
}

// Div is a quotient, and what is left.
func Div(hi, lo, d uint64) (uint64, uint64, api.Errno) {
	e := api.ErrArg
	switch {
	case d == 0:
		e = api.ErrZero
		fallthrough
	case hi >= d: // the quotient would not fit into a word
		return 0, 0, e
	}
	q, r := bits.Div64(hi, lo, d)
	return q, r, api.OK
}

// Len is how many bits a number has.
func Len(a uint64) int {
	return bits.Len64(a)
}

// Gcd is the greatest number that divides both.
func Gcd(a, b uint64) uint64 {
euclid:
	for range maxSteps {
		switch b {
		case 0:
			break euclid
		default:
			a, b = b, a%b
		}
	}
	return a
}

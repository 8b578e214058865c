// Package wire is layer 1: numbers and texts as bytes, and their sums.
package wire

import (
	"errors"
	"iter"

	"moraine/api"
)

// more is what is added to each byte of a number but the last.
const more = 128

// polynomial is what the sum is turned by, its lowest bit first.
const polynomial = 0xedb88320

// Num are a number's bytes.
func Num(n int) string {
	var b []byte
	for g := range groups(n) {
		if len(b) > 0 {
			b[len(b)-1] += more
		}
		b = append(b, g)
	}
	return string(b)
}

// groups are a number's groups, up to the last one that is not 0.
func groups(n int) iter.Seq[byte] {
	return func(yield func(byte) bool) {
		left := fold(n)
		for yield(byte(left % more)) {
			left /= more
			if left == 0 {
				return
			}
		}
	}
}

// fold lays the sign into the lowest bit, so that the first group is cut as the others are.
func fold(n int) uint {
	if n < 0 {
		return uint(-1-n)*2 + 1
	}
	return uint(n) * 2
}

// unfold is the number that fold was given.
func unfold(u uint) int {
	n := int(u / 2)
	if u%2 == 1 {
		return -1 - n
	}
	return n
}

// ReadNum is the number whose bytes stand in s from at on, and the place behind them.
func ReadNum(s string, at int) (int, int, api.Errno) {
	r := reader{text(s), at}
	n, err := r.number()
	if errors.Is(err, errWire) {
		return 0, 0, api.ErrWire
	}
	return n, r.at, api.OK
}

// Text are a text's bytes: how many it has, and the text.
func Text(s string) (string, api.Errno) {
	if len(s) > api.MaxBytes {
		return "", api.ErrWire
	}
	return Num(len(s)) + s, api.OK
}

// ReadText is the text whose bytes stand in s from at on, and the place behind them.
func ReadText(s string, at int) (string, int, api.Errno) {
	r := reader{text(s), at}
	t, err := r.sized()
	if errors.Is(err, errWire) {
		return "", 0, api.ErrWire
	}
	return t, r.at, api.OK
}

// Sum is a text's sum, from 0 to 4294967295.
func Sum(s string) int {
	c := ^uint32(0)
	turn := func(b byte) {
		c ^= uint32(b)
		for range 8 {
			odd := c%2 == 1
			c /= 2
			if odd {
				c ^= polynomial
			}
		}
	}
	for _, b := range []byte(s) {
		turn(b)
	}
	return int(^c)
}

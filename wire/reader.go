package wire

import (
	"errors"
	"iter"
	"math/bits"
	"strings"

	"moraine/api"
)

// errWire says that bytes are none of what is read of them.
var errWire = errors.New("wire: no such bytes")

// text is what is read from; any place may be asked for, as readers are handed any.
type text string

// from are the bytes from a place on, and behind the last one that there is none.
func (t text) from(at int) iter.Seq2[byte, error] {
	return func(yield func(byte, error) bool) {
		for i := at; i >= 0 && i < len(t); i++ {
			if !yield(t[i], nil) {
				return
			}
		}
		yield(0, errWire)
	}
}

// part are n bytes from a place on, in memory of their own: an answer keeps no argument alive.
func (t text) part(at, n int) (string, error) {
	if at < 0 || at > len(t) || n < 0 || n > len(t)-at {
		return "", errWire
	}
	return strings.Clone(string(t[at : at+n])), nil
}

// reader reads a text from a place on, which it moves behind what it has read.
type reader struct {
	text
	at int
}

// number reads a number.
func (r *reader) number() (int, error) {
	var u uint
	shift := 0
groups:
	for b, err := range r.from(r.at) {
		g := uint(b % more)
		u |= g << shift
		switch {
		case err != nil:
			return 0, err
		case shift >= bits.UintSize || u>>shift != g: // it is greater than any number
			return 0, errWire
		case b == 0 && shift > 0: // a last group of 0 is never written
			return 0, errWire
		case b < more:
			break groups
		}
		shift += 7
	}
	r.at += shift/7 + 1
	return unfold(u), nil
}

// sized reads a text that has its length ahead.
func (r *reader) sized() (string, error) {
	n, err := r.number()
	if err != nil {
		return "", err
	}
	if n > api.MaxBytes {
		return "", errWire
	}
	s, err := r.part(r.at, n)
	if err != nil {
		return "", err
	}
	r.at += n
	return s, nil
}

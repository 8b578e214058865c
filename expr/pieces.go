package expr

import (
	"iter"
	"strconv"
	"strings"

	"moraine/api"
	"moraine/val"
)

// Kinds of pieces.
const (
	noPiece = iota // from here no piece can be read
	endPiece
	numberPiece
	textPiece
	namePiece
	signPiece
)

// What numbers, and names behind their first letter, are made of.
const (
	digits    = "0123456789"
	nameBytes = "abcdefghijklmnopqrstuvwxyz_" + digits
)

// piece is a part of a text: its kind, its place, a number's N, and what else it says.
type piece struct {
	kind int
	at   int
	n    int
	s    string
}

// is says whether a piece is that sign: a text may say the same.
func (p piece) is(sign string) bool {
	return p.kind == signPiece && p.s == sign
}

// pieces yields a text's pieces, and behind them its end, or the place from which no piece can be read.
func pieces(s string) iter.Seq[piece] {
	return func(yield func(piece) bool) {
		at := 0
		for {
			at += len(run(s[at:], " "))
			p, size := read(s[at:])
			p.at = at
			if !yield(p) || size == 0 {
				return
			}
			at += size
		}
	}
}

// run are the bytes with which s begins that are among some.
func run(s, among string) string {
	return s[:len(s)-len(strings.TrimLeft(s, among))]
}

// read is the piece with which s begins, and how many bytes it has there.
func read(s string) (piece, int) {
	number, name := run(s, digits), run(s, nameBytes)
	sign := longest(s, "=", "<>", "<", "<=", ">", ">=", "&", "+", "-", "*", "/", "%", "(", ")", ",")
	switch {
	case s == "":
		return piece{kind: endPiece}, 0
	case number != "":
		return readNumber(number)
	case isName(name):
		return piece{kind: namePiece, s: strings.Clone(name)}, len(name) // a tree keeps no argument alive
	case s[0] == '"':
		return readText(s)
	case sign != "":
		return piece{kind: signPiece, s: sign}, len(sign)
	}
	return piece{}, 0
}

// longest is the longest one of some signs with which s begins.
func longest(s string, signs ...string) string {
	found := ""
	for _, sign := range signs {
		if len(sign) > len(found) && strings.HasPrefix(s, sign) {
			found = sign
		}
	}
	return found
}

// readNumber is the number of digits, which may be more than any number has.
func readNumber(number string) (piece, int) {
	n, err := strconv.Atoi(number)
	if err != nil || n > api.MaxNum {
		return piece{}, 0
	}
	return piece{kind: numberPiece, n: n}, len(number)
}

// readText is the text that stands between quotes at the beginning of s. They are written as val writes them.
func readText(s string) (piece, int) {
	v, size, err := val.Read(s, 0)
	if err != api.OK {
		return piece{}, 0
	}
	return piece{kind: textPiece, s: v.S}, size
}

package eval

import (
	"strings"
	"unicode/utf8"

	"moraine/api"
)

// text is a text's value, cut.
func text(s string) api.Val {
	return api.Val{Kind: api.Text, S: cut(s)}
}

// cut is as many of a text's first signs as a value has room for.
func cut(s string) string {
	for at, sign := range s {
		if at+utf8.RuneLen(sign) > api.MaxText {
			return s[:at]
		}
	}
	return s
}

// length is how many signs a text has.
func length(s string) int {
	n := 0
	for range s {
		n++
	}
	return n
}

// place is where the n-th sign of a text, from 0 on, stands: its end, if it has no such.
func place(s string, n int) int {
	for at := range s {
		if n < 1 {
			return at
		}
		n--
	}
	return len(s)
}

// first are a text's first n signs, or all.
func first(s string, n int) string {
	return s[:place(s, n)]
}

// behind is what stands in a text behind its first n signs.
func behind(s string, n int) string {
	return s[place(s, n):]
}

// find is how many signs stand in a text ahead of another one, -1, if that stands nowhere in it.
func find(s, part string) int {
	at := strings.Index(s, part)
	if at < 0 {
		return -1
	}
	return length(s[:at])
}

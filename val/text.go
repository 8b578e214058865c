package val

import (
	"strconv"
	"strings"
	"unicode/utf8"

	"moraine/api"
)

// none is what stands where no rune does: at the end, and where bytes are none's.
const none rune = -1

// Text is how a right value is written.
func Text(v api.Val) (string, api.Errno) {
	if !Right(v) {
		return "", api.ErrVal
	}
	return write(v), api.OK
}

// write is how a value is written that is known to be right.
func write(v api.Val) string {
	switch v.Kind {
	case api.Num:
		return strconv.Itoa(v.N)
	case api.Text:
		return quote(v.S)
	case api.Ref:
		return "@" + strconv.Itoa(v.N)
	case api.Weak:
		return "~" + strconv.Itoa(v.N)
	case api.List:
		var l []string
		for _, item := range v.L {
			l = append(l, write(item))
		}
		return "[" + strings.Join(l, " ") + "]"
	}
	return "-"
}

// quote is a text between quotes. A `\` is doubled first, as quotes bring others.
func quote(s string) string {
	s = strings.ReplaceAll(s, `\`, `\\`)
	return `"` + strings.ReplaceAll(s, `"`, `\"`) + `"`
}

// Read is the right value that is written in s from at on, and the place behind it.
func Read(s string, at int) (api.Val, int, api.Errno) {
	if !isPlace(s, at) {
		return api.Val{}, at, api.ErrArg
	}
	r := newRunes(s, at)
	v, ok := r.value()
	if !ok {
		return api.Val{}, at, api.ErrVal
	}
	return v, r.place(), api.OK
}

// runes goes through a text rune by rune. Its functions share the place.
type runes struct {
	here  func() rune
	step  func()
	place func() int
}

// newRunes goes through s from a place on.
func newRunes(s string, at int) runes {
	look := func() (rune, int) {
		c, size := utf8.DecodeRuneInString(s[at:])
		if c == utf8.RuneError && size < 2 { // that rune itself, written rightly, has three bytes
			return none, size
		}
		return c, size
	}
	here := func() rune {
		c, _ := look()
		return c
	}
	step := func() {
		_, size := look()
		at += size
	}
	place := func() int { return at }
	return runes{here, step, place}
}

// skip goes behind c, if that is here.
func (r runes) skip(c rune) bool {
	if r.here() != c {
		return false
	}
	r.step()
	return true
}

// next is what is here, which it goes behind.
func (r runes) next() rune {
	c := r.here()
	r.step()
	return c
}

// value reads a value.
func (r runes) value() (api.Val, bool) {
	if r.skip('[') {
		return r.list()
	}
	return r.item()
}

// list reads what stands behind a list's `[`.
func (r runes) list() (api.Val, bool) {
	v := api.Val{Kind: api.List}
	if r.skip(']') {
		return v, true
	}
	for len(v.L) < api.MaxList {
		item, ok := r.item()
		if !ok {
			break
		}
		v.L = append(v.L, item)
		if r.skip(']') {
			return v, true
		}
		if !r.skip(' ') {
			break
		}
	}
	return api.Val{}, false
}

// item reads a value that is no list.
func (r runes) item() (api.Val, bool) {
	switch {
	case r.skip('"'):
		return r.text()
	case r.skip('@'):
		return r.reference(api.Ref)
	case r.skip('~'):
		return r.reference(api.Weak)
	case r.skip('0'):
		return api.Val{Kind: api.Num}, true
	case r.skip('-'):
		if n, ok := r.digits(api.MaxNum); ok {
			return api.Val{Kind: api.Num, N: -n}, true
		}
		return api.Val{}, true
	}
	n, ok := r.digits(api.MaxNum)
	return api.Val{Kind: api.Num, N: n}, ok
}

// reference reads the number of a reference.
func (r runes) reference(kind int) (api.Val, bool) {
	if r.skip('-') {
		n, ok := r.digits(api.MaxOps)
		return api.Val{Kind: kind, N: -n}, ok
	}
	n, ok := r.digits(api.MaxID)
	return api.Val{Kind: kind, N: n}, ok
}

// digits reads as many digits as make a number from 1 to most: one more would be of no right value.
func (r runes) digits(most int) (int, bool) {
	n := 0
	for {
		c := r.here()
		more := n*10 + int(c-'0')
		if c < '0' || c > '9' || more < 1 || more > most {
			return n, n > 0
		}
		n = more
		r.step()
	}
}

// text reads what stands behind a text's first quote.
func (r runes) text() (api.Val, bool) {
	var b []byte
	for len(b) <= api.MaxText {
		c := r.next()
		switch c {
		case none:
			return api.Val{}, false
		case '"':
			s := string(b)
			return api.Val{Kind: api.Text, S: s}, rightText(s)
		case '\\':
			c = r.next()
			if c != '"' && c != '\\' {
				return api.Val{}, false
			}
		}
		b = utf8.AppendRune(b, c)
	}
	return api.Val{}, false
}

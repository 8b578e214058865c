package val

import (
	"moraine/api"
	"moraine/wire"
)

// Encode are a right value's bytes.
func Encode(v api.Val) (string, api.Errno) {
	if !Right(v) {
		return "", api.ErrVal
	}
	return encode(v), api.OK
}

// encode are the bytes of a value that is known to be right.
func encode(v api.Val) string {
	s := wire.Num(v.Kind)
	switch v.Kind {
	case api.Num, api.Ref, api.Weak:
		s += wire.Num(v.N)
	case api.Text:
		t, _ := wire.Text(v.S) // no right text is too long for it
		s += t
	case api.List:
		s += wire.Num(len(v.L))
		for _, item := range v.L {
			s += encode(item)
		}
	}
	return s
}

// Decode is the value whose bytes stand in s from at on, and the place behind them.
func Decode(s string, at int) (api.Val, int, api.Errno) {
	if !isPlace(s, at) {
		return api.Val{}, 0, api.ErrArg
	}
	r := newReader(s, at)
	v := r.value(api.List)
	to, err := r.end()
	if err != api.OK {
		return api.Val{}, 0, err
	}
	return v, to, api.OK
}

// isPlace says whether at is a place in s, or its end.
func isPlace(s string, at int) bool {
	return at >= 0 && at <= len(s)
}

// reader reads one part behind the other. Its functions share a place, and the first error: behind that nothing is read, and each part is zero.
type reader struct {
	number func(right func(int) bool) int
	text   func(right func(string) bool) string
	end    func() (int, api.Errno)
}

// newReader is a reader of s from a place on.
func newReader(s string, at int) reader {
	err := api.OK
	number := func(right func(int) bool) (n int) {
		if err == api.OK {
			n, at, err = checked(wire.ReadNum, s, at, right)
		}
		return n
	}
	text := func(right func(string) bool) (t string) {
		if err == api.OK {
			t, at, err = checked(wire.ReadText, s, at, right)
		}
		return t
	}
	end := func() (int, api.Errno) { return at, err }
	return reader{number, text, end}
}

// checked is what one of wire's calls reads, and the place behind it, if it is right.
func checked[T any](read func(string, int) (T, int, api.Errno), s string, at int, right func(T) bool) (T, int, api.Errno) {
	part, to, err := read(s, at)
	if err == api.OK && !right(part) {
		var none T
		return none, 0, api.ErrVal
	}
	return part, to, err
}

// value reads a value whose kind is last at most, as no list is in a list.
func (r reader) value(last int) api.Val {
	v := api.Val{Kind: r.number(func(n int) bool { return n >= api.Nil && n <= last })}
	switch v.Kind {
	case api.Num, api.Ref, api.Weak:
		v.N = r.number(func(n int) bool { return rightNumber(v.Kind, n) })
	case api.Text:
		v.S = r.text(rightText)
	case api.List:
		for range r.number(rightCount) {
			v.L = append(v.L, r.value(api.Weak))
		}
	}
	return v
}

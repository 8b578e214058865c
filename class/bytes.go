package class

import (
	"moraine/api"
	"moraine/wire"
)

// Encode are a right class's bytes.
func Encode(c api.Class) (string, api.Errno) {
	if !Right(c) {
		return "", api.ErrClass
	}
	s := nameBytes(c.Name) + wire.Num(len(c.Fields))
	for _, f := range c.Fields {
		s += fieldBytes(f)
	}
	return s, api.OK
}

// fieldBytes are the bytes of a field that is known to be right.
func fieldBytes(f api.Field) string {
	indexed := 0
	if f.Indexed {
		indexed = 1
	}
	return nameBytes(f.Name) + wire.Num(f.Type.Kind) + wire.Num(f.Type.Of) + wire.Num(indexed)
}

// nameBytes are the bytes of a right name, which is never too long to have them.
func nameBytes(name string) string {
	s, _ := wire.Text(name)
	return s
}

// Decode is the right class whose bytes stand in s from at on, and the place behind them.
func Decode(s string, at int) (api.Class, int, api.Errno) {
	r := &reader{s: s, at: at}
	c := api.Class{Name: r.text(), Fields: several(r.count, r.field)}
	if r.err != api.OK || !Right(c) {
		return api.Class{}, 0, api.ErrWire
	}
	return c, r.at, api.OK
}

// several reads how many parts there are, and each.
func several[T any](count func() int, part func() T) []T {
	var l []T
	for range count() {
		l = append(l, part())
	}
	return l
}

// reader reads one part behind the other. Behind the first error nothing is read, and each part is zero.
type reader struct {
	s   string
	at  int
	err api.Errno
}

// take reads a part by one of wire's calls.
func take[T any](r *reader, read func(string, int) (T, int, api.Errno)) (part T) {
	if r.err == api.OK {
		part, r.at, r.err = read(r.s, r.at)
	}
	return part
}

// text reads a text.
func (r *reader) text() string {
	return take(r, wire.ReadText)
}

// number reads a number.
func (r *reader) number() int {
	return take(r, wire.ReadNum)
}

// upTo reads a number from 0 to most.
func (r *reader) upTo(most int) int {
	n := r.number()
	if n < 0 || n > most {
		r.err = api.ErrWire
		return 0
	}
	return n
}

// count reads how many fields there are: what no class has is refused here, so that nobody goes through it.
func (r *reader) count() int {
	return r.upTo(api.MaxFields)
}

// flag reads a number that is 1 or 0.
func (r *reader) flag() bool {
	return r.upTo(1) == 1
}

// field reads a field.
func (r *reader) field() api.Field {
	return api.Field{Name: r.text(), Type: r.valType(), Indexed: r.flag()}
}

// valType reads a field's type.
func (r *reader) valType() api.Type {
	return api.Type{Kind: r.number(), Of: r.number()}
}

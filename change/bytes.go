package change

import (
	"moraine/api"
	"moraine/wire"
)

// Encode are a well formed change's bytes.
func Encode(ch api.Change) (string, api.Errno) {
	if !wellFormed(ch) {
		return "", api.ErrChange
	}
	return wire.Num(ch.Kind) + texts(ch.Field, ch.Name, ch.More) +
		wire.Num(ch.Type.Kind) + wire.Num(ch.Type.Of) + texts(ch.Expr, ch.Other), api.OK
}

// texts are the bytes of names and expressions, of which none that is right is too long to have them.
func texts(l ...string) string {
	s := ""
	for _, part := range l {
		t, _ := wire.Text(part)
		s += t
	}
	return s
}

// Decode is the well formed change whose bytes stand in s from at on, and the place behind them.
func Decode(s string, at int) (api.Change, int, api.Errno) {
	var ch api.Change
	number := func(n *int) bool { return next(s, &at, n, wire.ReadNum) }
	text := func(t *string) bool { return next(s, &at, t, wire.ReadText) }
	ok := number(&ch.Kind) && text(&ch.Field) && text(&ch.Name) && text(&ch.More) &&
		number(&ch.Type.Kind) && number(&ch.Type.Of) && text(&ch.Expr) && text(&ch.Other)
	if !ok || !wellFormed(ch) {
		return api.Change{}, 0, api.ErrWire
	}
	return ch, at, api.OK
}

// next reads the next part by one of wire's calls, goes behind it, and says whether there is one.
func next[T any](s string, at *int, part *T, read func(string, int) (T, int, api.Errno)) bool {
	var err api.Errno
	*part, *at, err = read(s, *at)
	return err == api.OK
}

package expr

import (
	"strconv"
	"strings"

	"moraine/api"
	"moraine/val"
)

// Print is the text of a right tree.
func Print(e api.Expr) (string, api.Errno) {
	if !Right(e) {
		return "", api.ErrExpr
	}
	return newGrammar().write(e), api.OK
}

// write is the text of a tree that is known to be right.
func (g grammar) write(e api.Expr) string {
	switch e.Kind {
	case api.ENum:
		return strconv.Itoa(e.N)
	case api.EText:
		return quote(e.S)
	case api.EOp:
		bind := g.bind(e)
		return g.kid(e.Kids[0], bind) + " " + e.S + " " + g.kid(e.Kids[1], bind+1)
	case api.EAhead:
		return e.S + g.kid(e.Kids[0], tightest)
	case api.ECall:
		var l []string
		for _, kid := range e.Kids {
			l = append(l, g.write(kid))
		}
		return e.S + "(" + strings.Join(l, ", ") + ")"
	}
	return strings.Clone(e.S) // a text keeps no argument alive
}

// quote is a right text between quotes. It is written as val writes it.
func quote(s string) string {
	text, _ := val.Text(api.Val{Kind: api.Text, S: s})
	return text
}

// kid is the text of a Kid, between brackets, if it binds less than where it stands.
func (g grammar) kid(e api.Expr, least int) string {
	if g.bind(e) < least {
		return "(" + g.write(e) + ")"
	}
	return g.write(e)
}

// bind is how much a tree binds.
func (g grammar) bind(e api.Expr) int {
	if e.Kind == api.EOp {
		return g.binds[e.S]
	}
	return tightest
}

package change

import (
	"moraine/api"
	"moraine/class"
	"moraine/expr"
)

// need is what a change needs: Field; Name; Type and Expr; More and Other.
type need struct {
	field bool
	name  bool
	typed bool
	more  bool
}

// wellFormed says whether a change is well formed, whatever it is to be made of.
func wellFormed(ch api.Change) bool {
	k, ok := newStep(api.Class{}, ch).kinds()[ch.Kind]
	return ok && k.met(ch)
}

// met says whether what is needed of a change is right, and all else zero.
func (n need) met(ch api.Change) bool {
	return rightOrNone(ch.Field, n.field, isName) &&
		rightOrNone(ch.Name, n.name, isName) &&
		rightOrNone(ch.More, n.more, isName) &&
		rightOrNone(ch.Type, n.typed, class.RightType) &&
		rightOrNone(ch.Expr, n.typed, isExpression) &&
		rightOrNone(ch.Other, n.more, isExpression)
}

// rightOrNone says whether a part is right, if it is needed, else whether it is zero.
func rightOrNone[T comparable](part T, needed bool, right func(T) bool) bool {
	if needed {
		return right(part)
	}
	var none T
	return part == none
}

// isName says whether s is a right name. That is class's to say: no class is called otherwise.
func isName(s string) bool {
	return class.Right(api.Class{Name: s})
}

// isExpression says whether s is an expression, or empty.
func isExpression(s string) bool {
	if s == "" {
		return true
	}
	_, _, err := expr.Parse(s)
	return err == api.OK
}

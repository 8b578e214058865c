package eval

import (
	"slices"

	"moraine/api"
)

// form is of which kind something is, if its parts are of some kinds.
type form struct {
	gives int
	parts []int
}

// of is the form of what is of a kind, its parts being of the others.
func of(gives int, parts ...int) form {
	return form{gives, parts}
}

// takes says whether parts of some kinds are those of a form.
func (f form) takes(kinds []int) bool {
	return slices.Equal(f.parts, kinds)
}

// operatorForms are the forms of an operator between two.
func operatorForms(sign string) []form {
	var l []form
	switch sign {
	case "&":
		return []form{of(api.Text, api.Text, api.Text)}
	case "=", "<>", "<", "<=", ">", ">=":
		l = append(l, of(api.Num, api.Text, api.Text))
		fallthrough // texts are compared beside numbers, not in their stead
	default:
		return append(l, of(api.Num, api.Num, api.Num))
	}
}

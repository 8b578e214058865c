package change_test

import (
	"regexp"
	"slices"
	"strings"

	"moraine/api"
	"moraine/class"
	"moraine/eval"
	"moraine/expr"
	"moraine/val"
	"moraine/wire"
)

// What is here is made by the chapter's words, in another way than the program: kind by kind, each condition by itself.

// needs are the letters of what a change needs, by its kind: f Field, n Name, m More, t Type, e Expr, o Other.
var needs = map[int]string{api.ChAdd: "nte", api.ChDrop: "f", api.ChRename: "fn", api.ChTurn: "fte", api.ChSplit: "fnmteo", api.ChIndex: "f"}

var nameForm = regexp.MustCompile(`\A[a-z][a-z0-9_]{0,19}\z`)

// plainFormed is which changes are well formed.
func plainFormed(ch api.Change) bool {
	row, ok := needs[ch.Kind]
	if !ok {
		return false
	}
	parses := func(s string) bool {
		_, _, err := expr.Parse(s)
		return s == "" || err == 0
	}
	for _, part := range []struct {
		letter      string
		zero, right bool
	}{
		{"f", ch.Field == "", nameForm.MatchString(ch.Field)},
		{"n", ch.Name == "", nameForm.MatchString(ch.Name)},
		{"m", ch.More == "", nameForm.MatchString(ch.More)},
		{"t", ch.Type == api.Type{}, slices.Contains(rightTypes(), ch.Type)},
		{"e", ch.Expr == "", parses(ch.Expr)},
		{"o", ch.Other == "", parses(ch.Other)},
	} {
		if needed := strings.Contains(row, part.letter); needed && !part.right || !needed && !part.zero {
			return false
		}
	}
	return true
}

// has says whether a class has a field of a name, but for one.
func has(c api.Class, name string, but string) bool {
	return slices.ContainsFunc(c.Fields, func(f api.Field) bool { return f.Name == name && name != but })
}

// tells says whether an expression tells values of a type.
func tells(s string, t api.Type, c api.Class) bool {
	e, _, _ := expr.Parse(s)
	typ, err := eval.Type(e, c)
	return s == "" || err == 0 && typ == t
}

// plainRight is which changes are right.
func plainRight(c api.Class, ch api.Change) bool {
	if !class.Right(c) || !plainFormed(ch) {
		return false
	}
	found, room, told := has(c, ch.Field, ""), len(c.Fields) < 8, tells(ch.Expr, ch.Type, c)
	switch ch.Kind {
	case api.ChAdd:
		return room && !has(c, ch.Name, "") && told
	case api.ChDrop:
		return found
	case api.ChRename:
		return found && !has(c, ch.Name, "")
	case api.ChTurn:
		return found && told
	case api.ChSplit:
		return found && room && ch.Name != ch.More && !has(c, ch.Name, ch.Field) && !has(c, ch.More, ch.Field) && told && tells(ch.Other, ch.Type, c)
	}
	for _, f := range c.Fields {
		if f.Name == ch.Field && f.Type.Of == 0 && f.Type.Kind <= 3 {
			return true
		}
	}
	return false
}

// plainFields are the fields of a class behind a right change, and for each the expression that tells its values; of those that stay as they were it is their name.
func plainFields(c api.Class, ch api.Change) ([]api.Field, []string) {
	var l []api.Field
	var told []string
	put := func(f api.Field, s string) { l, told = append(l, f), append(told, s) }
	for _, f := range c.Fields {
		old := f.Name
		switch {
		case f.Name != ch.Field:
			put(f, old)
		case ch.Kind == api.ChRename:
			f.Name = ch.Name
			put(f, old)
		case ch.Kind == api.ChTurn:
			put(api.Field{Name: f.Name, Type: ch.Type}, ch.Expr)
		case ch.Kind == api.ChSplit:
			put(api.Field{Name: ch.Name, Type: ch.Type}, ch.Expr)
			put(api.Field{Name: ch.More, Type: ch.Type}, ch.Other)
		case ch.Kind == api.ChIndex:
			f.Indexed = !f.Indexed
			put(f, old)
		}
	}
	if ch.Kind == api.ChAdd {
		put(api.Field{Name: ch.Name, Type: ch.Type}, ch.Expr)
	}
	return l, told
}

// plainApply is what Apply tells.
func plainApply(c api.Class, ch api.Change) (api.Class, api.Errno) {
	if !class.Right(c) {
		return api.Class{}, 40
	}
	if !plainRight(c, ch) {
		return api.Class{}, 70
	}
	l, _ := plainFields(c, ch)
	return api.Class{Name: c.Name, Fields: l}, 0
}

// plainVals is what Vals tells.
func plainVals(c api.Class, ch api.Change, vals []api.Val) ([]api.Val, api.Errno) {
	if _, err := class.Check(c, vals); err != 0 {
		return nil, err
	}
	if !plainRight(c, ch) {
		return nil, 70
	}
	fields, told := plainFields(c, ch)
	var l []api.Val
	for i, s := range told {
		e, _, _ := expr.Parse(s)
		v, _ := eval.Eval(e, c, vals)
		if s == "" {
			v = val.Zero(fields[i].Type)
		}
		l = append(l, v)
	}
	return l, 0
}

// plainBytes are a change's bytes, well formed or not.
func plainBytes(ch api.Change) string {
	text := func(s string) string { return wire.Num(len(s)) + s }
	l := []string{wire.Num(ch.Kind), text(ch.Field), text(ch.Name), text(ch.More), wire.Num(ch.Type.Kind), wire.Num(ch.Type.Of), text(ch.Expr), text(ch.Other)}
	return strings.Join(l, "")
}

// plainDecode reads part by part.
func plainDecode(s string, at int) (api.Change, int, api.Errno) {
	right := true
	number := func() (n int) {
		n, behind, err := wire.ReadNum(s, at)
		right, at = right && err == 0, behind
		return n
	}
	text := func() string {
		n := number()
		if right = right && n >= 0 && n <= len(s)-at; !right {
			return ""
		}
		at += n
		return s[at-n : at]
	}
	ch := api.Change{Kind: number(), Field: text(), Name: text(), More: text()}
	ch.Type = api.Type{Kind: number(), Of: number()}
	ch.Expr, ch.Other = text(), text()
	if !right || !plainFormed(ch) {
		return api.Change{}, 0, 10
	}
	return ch, at, 0
}

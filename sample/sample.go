// Package sample is what tests of the layers are made of: values, types, classes and changes, in short.
package sample

import (
	"slices"
	"strconv"
	"strings"

	"moraine/api"
	"moraine/val"
)

// Num is a number.
func Num(n int) api.Val { return api.Val{Kind: api.Num, N: n} }

// Text is a text.
func Text(s string) api.Val { return api.Val{Kind: api.Text, S: s} }

// Ref is a strong reference.
func Ref(n int) api.Val { return api.Val{Kind: api.Ref, N: n} }

// Weak is a weak reference.
func Weak(n int) api.Val { return api.Val{Kind: api.Weak, N: n} }

// List is a list.
func List(l ...api.Val) api.Val { return api.Val{Kind: api.List, L: l} }

// Kind is the type of a kind.
func Kind(k int) api.Type { return api.Type{Kind: k} }

// ListOf is the type of lists of a kind.
func ListOf(k int) api.Type { return api.Type{Kind: api.List, Of: k} }

// Types are all the types that DOC.md calls right.
func Types() []api.Type {
	l := []api.Type{{Kind: 1}, {Kind: 2}, {Kind: 3}, {Kind: 4}}
	for of := 1; of <= 4; of++ {
		l = append(l, api.Type{Kind: 5, Of: of})
	}
	return l
}

// Field is a field that is not indexed.
func Field(name string, t api.Type) api.Field { return api.Field{Name: name, Type: t} }

// Indexed is a field that is indexed.
func Indexed(name string, t api.Type) api.Field {
	return api.Field{Name: name, Type: t, Indexed: true}
}

// Class is a class.
func Class(name string, fields ...api.Field) api.Class {
	return api.Class{Name: name, Fields: fields}
}

// Node is the class of DOC.md's first example, with n indexed.
func Node() api.Class {
	return Class("node", Indexed("n", Kind(api.Num)), Field("next", Kind(api.Ref)))
}

// Pair is a class of what expressions are of.
func Pair() api.Class {
	return Class("pair", Field("n", Kind(api.Num)), Field("t", Kind(api.Text)))
}

// Whole is a class with a field of each type.
func Whole() api.Class {
	return Class("whole", Field("n", Kind(api.Num)), Field("t", Kind(api.Text)), Field("r", Kind(api.Ref)), Field("w", Kind(api.Weak)),
		Field("ns", ListOf(api.Num)), Field("ts", ListOf(api.Text)), Field("rs", ListOf(api.Ref)), Field("ws", ListOf(api.Weak)))
}

// Classes are right ones: with no fields, some, one less than there may be, and as many.
func Classes() []api.Class {
	less, most := Whole(), Whole()
	less.Name, most.Name = "less", "most"
	less.Fields = slices.Delete(less.Fields, 3, 4)
	for i := range 3 {
		most.Fields[i].Indexed = true
	}
	long := Class(strings.Repeat("c", 20), Field(strings.Repeat("f", 20), Kind(api.Text)), Field("n", Kind(api.Num)))
	return []api.Class{Class("e"), Class("a", Field("n", Kind(api.Num))), Class("b", Indexed("t", Kind(api.Text))), Class("w", Field("w", Kind(api.Weak))), Node(), Pair(), less, Whole(), most, long}
}

// WrongClasses are classes that are not right, each for one fault alone.
func WrongClasses() []api.Class {
	n := Field("n", Kind(api.Num))
	nine := Whole()
	nine.Fields = append(nine.Fields, Field("m", Kind(api.Num)))
	l := []api.Class{nine, {}}
	for _, name := range []string{"", "A", "a b", strings.Repeat("a", 21)} {
		l = append(l, Class(name, n))
	}
	for _, f := range []api.Field{n, Field("n", Kind(api.Text)), Field("", n.Type), Field("N", n.Type), Field(strings.Repeat("f", 21), n.Type),
		{Name: "m"}, Field("m", ListOf(0)), Field("m", ListOf(api.List)), Field("m", api.Type{Kind: api.Num, Of: 1}), Indexed("m", Kind(api.Weak)), Indexed("m", ListOf(api.Num))} {
		l = append(l, Class("a", n, f))
	}
	return l
}

// Fittings are values of a class, no two of one type the same; with seed 0 they say least.
func Fittings(c api.Class, seed int) []api.Val {
	var l []api.Val
	for i, f := range c.Fields {
		k := seed*10 + i + 1
		v := map[int]api.Val{api.Num: Num(k - 15), api.Text: Text(strings.Repeat("é", i) + "ab c"), api.Ref: Ref(k), api.Weak: Weak(k)}
		switch {
		case seed == 0:
			l = append(l, val.Zero(f.Type))
		case f.Type.Kind != api.List:
			l = append(l, v[f.Type.Kind])
		default:
			l = append(l, List(v[f.Type.Of], v[f.Type.Of]))
		}
	}
	return l
}

// Fill writes into all lists of some values, spare room, too.
func Fill(l []api.Val) {
	for _, v := range l {
		Fill(v.L)
	}
	l = l[:cap(l)]
	for i := range l {
		l[i] = Num(-77)
	}
}

// Add is a change by which a field comes.
func Add(name string, t api.Type, expr string) api.Change {
	return api.Change{Kind: api.ChAdd, Name: name, Type: t, Expr: expr}
}

// Drop is a change by which a field goes.
func Drop(name string) api.Change { return api.Change{Kind: api.ChDrop, Field: name} }

// Rename is a change by which a field has another name.
func Rename(name, to string) api.Change {
	return api.Change{Kind: api.ChRename, Field: name, Name: to}
}

// Turn is a change by which a field is of another type.
func Turn(name string, t api.Type, expr string) api.Change {
	return api.Change{Kind: api.ChTurn, Field: name, Type: t, Expr: expr}
}

// Split is a change by which a field gives way to two.
func Split(name, one, more string, t api.Type, expr, other string) api.Change {
	return api.Change{Kind: api.ChSplit, Field: name, Name: one, More: more, Type: t, Expr: expr, Other: other}
}

// Index is a change by which a field is indexed, or is not any more.
func Index(name string) api.Change { return api.Change{Kind: api.ChIndex, Field: name} }

// Change is a change that is often right of a class; pick tells a number below another one.
func Change(pick func(int) int, c api.Class) api.Change {
	other := func() string { return "f" + strconv.Itoa(pick(9)) }
	name := func() string {
		if len(c.Fields) == 0 || pick(6) == 0 {
			return other()
		}
		return c.Fields[pick(len(c.Fields))].Name
	}
	typ := Types()[pick(8)]
	tells := func() string { return expression(pick, typ, name(), name()) }
	all := []api.Change{Add(other(), typ, tells()), Add(other(), typ, ""), Drop(name()), Rename(name(), other()), Turn(name(), typ, tells()), Turn(name(), typ, tells()), Split(name(), other(), other(), typ, tells(), tells()), Index(name())}
	return all[pick(len(all))]
}

// expression is one that often tells values of a type, by two fields, or is none.
func expression(pick func(int) int, t api.Type, a, b string) string {
	some := map[int][]string{
		api.Num:  {"5", "len(" + a + ")", a + "+" + b, a + "*" + a, "-" + a, a + "=" + b},
		api.Text: {`"x"`, "text(" + a + ")", a + "&" + b, "left(" + a + ",2)"},
	}[t.Kind]
	if len(some) == 0 || pick(3) == 0 {
		some = []string{"", a}
	}
	return some[pick(len(some))]
}

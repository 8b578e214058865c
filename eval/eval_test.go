package eval_test

import (
	"math"
	"slices"
	"strings"
	"testing"

	"moraine/api"
	"moraine/eval"
	"moraine/expr"
	"moraine/val"
)

func num(n int) api.Expr      { return api.Expr{Kind: api.ENum, N: n} }
func text(s string) api.Expr  { return api.Expr{Kind: api.EText, S: s} }
func field(s string) api.Expr { return api.Expr{Kind: api.EField, S: s} }
func op(sign string, a, b api.Expr) api.Expr {
	return api.Expr{Kind: api.EOp, S: sign, Kids: []api.Expr{a, b}}
}
func ahead(e api.Expr) api.Expr { return api.Expr{Kind: api.EAhead, S: "-", Kids: []api.Expr{e}} }
func call(name string, kids ...api.Expr) api.Expr {
	return api.Expr{Kind: api.ECall, S: name, Kids: kids}
}

// tree is the tree of an expression.
func tree(t *testing.T, s string) api.Expr {
	t.Helper()
	e, at, err := expr.Parse(s)
	if err != api.OK {
		t.Fatalf("%s: %d at %d", s, err, at)
	}
	return e
}

func numV(n int) api.Val         { return api.Val{Kind: api.Num, N: n} }
func textV(s string) api.Val     { return api.Val{Kind: api.Text, S: s} }
func refV(n int) api.Val         { return api.Val{Kind: api.Ref, N: n} }
func weakV(n int) api.Val        { return api.Val{Kind: api.Weak, N: n} }
func listV(l ...api.Val) api.Val { return api.Val{Kind: api.List, L: l} }

// of is a class of fields of some kinds, by their names; below 0 it is a list of that kind.
func of(fields ...any) api.Class {
	c := api.Class{Name: "c"}
	for i := 0; i < len(fields); i += 2 {
		f := api.Field{Name: fields[i].(string), Type: api.Type{Kind: fields[i+1].(int)}}
		if f.Type.Kind < 0 {
			f.Type = api.Type{Kind: api.List, Of: -f.Type.Kind}
		}
		c.Fields = append(c.Fields, f)
	}
	return c
}

// all is a class with a field of each type, allVals are values of it.
func all() api.Class {
	return of("n", api.Num, "t", api.Text, "r", api.Ref, "w", api.Weak, "ns", -api.Num, "ts", -api.Text, "rs", -api.Ref, "ws", -api.Weak)
}

func allVals() []api.Val {
	return []api.Val{numV(7), textV("ab"), refV(5), weakV(6), listV(numV(1), numV(2)), listV(textV("x")), listV(refV(1), api.Val{}), listV(weakV(3))}
}

// pair is a class of two Nums and two Texts.
func pair() api.Class {
	return of("n", api.Num, "m", api.Num, "t", api.Text, "u", api.Text)
}

func pairVals(n, m int, t, u string) []api.Val {
	return []api.Val{numV(n), numV(m), textV(t), textV(u)}
}

// check holds what is told of an expression against the chapter's words, and P6.3's of what it is worth.
func check(t *testing.T, e api.Expr, c api.Class, vals []api.Val) {
	t.Helper()
	typ, err := eval.Type(e, c)
	if want, told := plainType(e, c); typ != want || err != told {
		t.Fatalf("%s is of %v, %d, not of %v, %d", show(e), typ, err, want, told)
	}
	v, failed := eval.Eval(e, c, vals)
	if want, told := plainEval(e, c, vals); !val.Same(v, want) || failed != told {
		t.Fatalf("%s of %v is %v, %d, not %v, %d", show(e), vals, v, failed, want, told)
	}
	if failed == api.OK && !val.Fits(v, typ) {
		t.Fatalf("%s of %v is %v, which does not fit %v", show(e), vals, v, typ)
	}
}

// show is a right tree's text.
func show(e api.Expr) string {
	s, _ := expr.Print(e)
	return s
}

// P6.1, P6.2: the chapter's examples.
func TestExamples(t *testing.T) {
	c := of("n", api.Num, "t", api.Text)
	vals := []api.Val{numV(7), textV("ab")}
	for _, x := range []struct {
		s string
		v api.Val
	}{
		{"n/2", numV(3)}, {"-n%4", numV(-3)}, {"t&text(n)", textV("ab7")}, {"n/0", numV(0)}, {`find(t,"b")`, numV(1)}, {`if(n>5,left(t,1),"")`, textV("a")},
	} {
		e := tree(t, x.s)
		if typ, err := eval.Type(e, c); typ != (api.Type{Kind: x.v.Kind}) || err != api.OK {
			t.Errorf("%s is of %v, %d", x.s, typ, err)
		}
		if v, err := eval.Eval(e, c, vals); !val.Same(v, x.v) || err != api.OK {
			t.Errorf("%s: %v, %d", x.s, v, err)
		}
	}
	e := tree(t, "n+t")
	if typ, err := eval.Type(e, c); typ != (api.Type{}) || err != api.ErrType {
		t.Errorf("n+t is of %v, %d", typ, err)
	}
	if v, err := eval.Eval(e, c, vals); !val.Same(v, api.Val{}) || err != api.ErrType {
		t.Errorf("n+t: %v, %d", v, err)
	}
}

// leaves are the parts that other expressions are made of here: one of each type, and one that has none.
func leaves() []api.Expr {
	l := []api.Expr{num(0), num(3), text(""), text("é"), field("nobody"), ahead(text("a"))}
	for _, f := range all().Fields {
		l = append(l, field(f.Name))
	}
	return l
}

// P6.1: what is told of each operator and each call, with parts of all types.
func TestTypeOfAll(t *testing.T) {
	c, vals, l := all(), allVals(), leaves()
	for _, a := range l {
		check(t, a, c, vals)
		check(t, ahead(a), c, vals)
		for _, name := range []string{"len", "text", "num"} {
			check(t, call(name, a), c, vals)
		}
		for _, b := range l {
			for _, sign := range operators {
				check(t, op(sign, a, b), c, vals)
			}
			for _, name := range []string{"left", "right", "from", "find", "min", "max"} {
				check(t, call(name, a, b), c, vals)
			}
			for _, d := range l {
				check(t, call("if", a, b, d), c, vals)
			}
		}
	}
}

// P6.1: some types, and what has none, as the table says them.
func TestType(t *testing.T) {
	c := all()
	for _, s := range []string{"5", "n", "n + 1", "n - n", "n * 2", "n / 0", "n % 2", "-n", "--n", `t = "a"`, "t <> t", "t < t", "t <= t", "t > t", "t >= t", "n = 1", "n <> n", "n < n", "n <= n", "n > n", "n >= n", "len(t)", "find(t, t)", "num(t)", "if(n, 1, n)", "min(n, 1)", "max(1, n)", "t = text(n)", "if(t = t, len(t), num(t)) + 1"} {
		if typ, err := eval.Type(tree(t, s), c); typ != (api.Type{Kind: api.Num}) || err != api.OK {
			t.Errorf("%s is of %v, %d", s, typ, err)
		}
	}
	for _, s := range []string{`""`, "t", "t & t", "left(t, n)", "right(t, 1)", "from(t, -1)", "text(5)", `if(n, t, "")`, "text(n) & t", `if(t < "b", t & "c", left(t, len(t)))`} {
		if typ, err := eval.Type(tree(t, s), c); typ != (api.Type{Kind: api.Text}) || err != api.OK {
			t.Errorf("%s is of %v, %d", s, typ, err)
		}
	}
	for _, f := range c.Fields {
		if typ, err := eval.Type(field(f.Name), c); typ != f.Type || err != api.OK {
			t.Errorf("%s is of %v, %d", f.Name, typ, err)
		}
	}
	for _, s := range []string{"x", "-x", "len(x)", "nn", "tt", "c", "len", "-t", "-r", "-ns", "n + t", "t + t", "n & n", "n & t", "n = t", "t < n", "r = r", "w = w", "ns = ns", "ts & ts", "rs <> rs", "len(n)", "len(ts)", "left(n, n)", "left(t, t)", "left(n, t)", "right(t, t)", "from(1, 2)", "find(t, n)", "find(n, t)", "text(t)", "num(n)", "text(r)", "num(ts)", "if(t, n, n)", "if(n, n, t)", "if(n, t, n)", "if(n, r, r)", "if(n, w, w)", "if(n, ns, ns)", "if(r, n, n)", "if(1, 1, x)", "if(1, x, x)", "if(x, 1, 1)", "min(t, t)", "max(n, t)", "min(t, n)", "1 + len(n)", "t & (t & n)", "-(t = n)"} {
		if typ, err := eval.Type(tree(t, s), c); typ != (api.Type{}) || err != api.ErrType {
			t.Errorf("%s is of %v, %d", s, typ, err)
		}
	}
}

// wrongTrees are trees that are not right, of no type and of some.
func wrongTrees() []api.Expr {
	deep, wide := num(1), num(1)
	for range 8 {
		deep = ahead(deep)
	}
	for range 5 {
		wide = op("+", wide, wide)
	}
	long := strings.Repeat("x", 61)
	return []api.Expr{{}, {Kind: 7}, {Kind: -1}, num(-1), num(api.MaxNum + 1), num(math.MinInt), {Kind: api.ENum, S: "a"}, {Kind: api.ENum, Kids: []api.Expr{num(1)}},
		text(long), text("\n"), text("\xff"), {Kind: api.EText, N: 1}, {Kind: api.EText, S: "a", Kids: []api.Expr{num(1)}}, field(""), field("N"), field(strings.Repeat("n", 21)), {Kind: api.EField, S: "n", N: 1}, {Kind: api.EField, S: "n", Kids: []api.Expr{num(1)}},
		{Kind: api.EOp, S: "+"}, {Kind: api.EOp, S: "+", Kids: []api.Expr{num(1)}}, {Kind: api.EOp, S: "+", Kids: []api.Expr{num(1), num(1), num(1)}}, op("", num(1), num(1)), op("==", num(1), num(1)), op("len", text("a"), text("a")), op("(", num(1), num(1)),
		{Kind: api.EAhead, S: "-"}, {Kind: api.EAhead, S: "+", Kids: []api.Expr{num(1)}}, {Kind: api.EAhead, S: "-", Kids: []api.Expr{num(1), num(1)}},
		call("len"), call("len", text("a"), text("a")), call("if", num(1), num(1)), call("sum", num(1)), call("", num(1)), call("+", num(1), num(1)), call("min", num(1)),
		deep, wide, op("+", num(1), num(-1)), call("if", num(1), text(long), text("")), op("+", field("nobody"), num(-1)), call("len", num(-1))}
}

// wrongClasses are classes that are not right, but that have a field n, a Num.
func wrongClasses() []api.Class {
	l := []api.Class{of("n", api.Num, "n", api.Num), of("n", api.Num, "", api.Num), of("n", api.Num, "N", api.Num), of("n", api.Num, "m", 0), of("n", api.Num, "m", api.List), of("n", api.Num, "m", -api.List), of("n", api.Num, "m", 6), of("n", api.Num, strings.Repeat("m", 21), api.Num),
		of("n", api.Num, "a", 1, "b", 1, "d", 1, "e", 1, "f", 1, "g", 1, "h", 1, "i", 1)}
	for _, name := range []string{"", "C", "1", "c c", strings.Repeat("c", 21)} {
		c := of("n", api.Num)
		c.Name = name
		l = append(l, c)
	}
	c := of("n", api.Num)
	c.Fields[0].Type.Of = api.Num
	d := of("n", api.Num, "w", api.Weak)
	d.Fields[1].Indexed = true
	return append(l, c, d)
}

// wrongVals are lists of values that do not fit a class of n, a Num, and t, a Text.
func wrongVals() [][]api.Val {
	n, s := numV(1), textV("a")
	return [][]api.Val{nil, {n}, {n, s, n}, {s, n}, {n, n}, {s, s}, {{}, s}, {n, {}}, {refV(1), s}, {n, listV(s)}, {numV(api.MaxNum + 1), s}, {numV(math.MinInt), s}, {n, textV(strings.Repeat("x", 61))}, {n, textV("\xff")}, {n, textV("a\n")}, {{Kind: api.Num, N: 1, S: "x"}, s}, {n, {Kind: api.Text, S: "a", N: 1}}, {n, {Kind: api.Text, S: "a", L: []api.Val{n}}}, {{Kind: 9}, s}, slices.Repeat([]api.Val{n}, 100)}
}

// tells fails, if not just that error is told of an expression's type, and of what it is worth.
func tells(t *testing.T, e api.Expr, c api.Class, vals []api.Val, typed, worth api.Errno) {
	t.Helper()
	if typ, err := eval.Type(e, c); err != typed || (typ == api.Type{}) != (err != api.OK) {
		t.Errorf("%+v of %+v is of %v, %d, not %d", e, c, typ, err, typed)
	}
	if v, err := eval.Eval(e, c, vals); err != worth || !val.Same(v, api.Val{}) {
		t.Errorf("%+v of %+v and %+v: %v, %d, not %d", e, c, vals, v, err, worth)
	}
}

// P6.1, P6.2: each error, and of two that apply the one that is named first.
func TestErrors(t *testing.T) {
	c, vals := of("n", api.Num, "t", api.Text), []api.Val{numV(1), textV("a")}
	bad := wrongVals()[0]
	for _, e := range wrongTrees() {
		tells(t, e, c, vals, api.ErrExpr, api.ErrExpr)
		tells(t, e, c, bad, api.ErrExpr, api.ErrExpr)
		tells(t, e, wrongClasses()[0], bad, api.ErrExpr, api.ErrExpr)
	}
	for _, d := range wrongClasses() {
		for _, e := range []api.Expr{num(1), field("n"), field("nobody"), op("+", field("n"), text(""))} {
			tells(t, e, d, []api.Val{numV(1)}, api.ErrClass, api.ErrClass)
			tells(t, e, d, bad, api.ErrClass, api.ErrClass)
		}
	}
	for _, v := range wrongVals() {
		tells(t, op("+", field("n"), field("t")), c, v, api.ErrType, api.ErrType)
		tells(t, field("nobody"), c, v, api.ErrType, api.ErrType)
		for _, e := range []api.Expr{num(1), text(""), field("n"), field("t"), op("=", field("t"), field("t"))} {
			tells(t, e, c, v, api.OK, api.ErrFit)
		}
	}
}

// R1: what is not right is told soon, however large it is, or if a list holds itself.
func TestEnds(t *testing.T) {
	c, vals := of("n", api.Num), []api.Val{numV(1)}
	self := make([]api.Expr, 2)
	self[0] = op("+", num(1), num(1))
	self[0].Kids = self
	self[1] = self[0]
	shared, deep := num(1), num(1)
	for range 100 {
		shared = op("*", shared, shared)
	}
	for range 1 << 16 {
		deep = ahead(deep)
	}
	for i, e := range []api.Expr{self[0], shared, deep, call("if", slices.Repeat([]api.Expr{num(1)}, 1<<20)...), text(strings.Repeat("x", 1<<20))} {
		_, typed := eval.Type(e, c)
		if _, worth := eval.Eval(e, c, vals); typed != api.ErrExpr || worth != api.ErrExpr {
			t.Errorf("%d: %d, %d", i, typed, worth)
		}
	}
	big := c
	big.Fields = slices.Repeat(c.Fields, 1<<20)
	if _, err := eval.Type(num(1), big); err != api.ErrClass {
		t.Error(err)
	}
	nested := numV(1)
	for range 1 << 16 {
		nested = listV(nested)
	}
	if _, err := eval.Eval(num(1), c, []api.Val{nested}); err != api.ErrFit {
		t.Error(err)
	}
	if _, err := eval.Eval(num(1), c, slices.Repeat(vals, 1<<20)); err != api.ErrFit {
		t.Error(err)
	}
}

// P6.1, P6.2: a class without fields, and one with as many as it may have.
func TestFields(t *testing.T) {
	if v, err := eval.Eval(op("+", num(1), num(2)), of(), nil); !val.Same(v, numV(3)) || err != api.OK {
		t.Errorf("%v, %d", v, err)
	}
	if v, err := eval.Eval(num(1), of(), []api.Val{}); !val.Same(v, numV(1)) || err != api.OK {
		t.Errorf("%v, %d", v, err)
	}
	tells(t, field("n"), of(), nil, api.ErrType, api.ErrType)
	c, vals := of("len", 1, "left", 1, "if", 1, "num", 1, "text", 1, "min", 1, "max", 1, "find", 1), []api.Val{}
	for i := range c.Fields {
		vals = append(vals, numV(100+i))
	}
	for i, f := range c.Fields {
		if v, err := eval.Eval(call("min", field(f.Name), call("max", num(5), num(1000))), c, vals); !val.Same(v, numV(100+i)) || err != api.OK {
			t.Errorf("%s: %v, %d", f.Name, v, err)
		}
	}
}

// P6.1, P6.2: a whole expression may be a field of any type, and is its value.
func TestWholeField(t *testing.T) {
	c := all()
	for _, vals := range [][]api.Val{
		allVals(),
		{numV(api.MaxNum), textV(strings.Repeat("é", 30)), {}, {}, listV(), listV(), listV(), listV()},
		{numV(-api.MaxNum), textV(""), refV(-20), weakV(-1), listV(slices.Repeat([]api.Val{numV(-3)}, 12)...), listV(textV(""), textV(`"\`)), listV(api.Val{}, refV(-1), refV(100000)), listV(api.Val{}, weakV(9))},
	} {
		for i, f := range c.Fields {
			check(t, field(f.Name), c, vals)
			if v, err := eval.Eval(field(f.Name), c, vals); !val.Same(v, vals[i]) || err != api.OK {
				t.Errorf("%s: %v, %d, not %v", f.Name, v, err, vals[i])
			}
		}
	}
}

// P6.1: that a field is indexed makes no difference.
func TestIndexed(t *testing.T) {
	c := of("n", api.Num, "t", api.Text, "r", api.Ref)
	for i := range c.Fields {
		c.Fields[i].Indexed = true
	}
	for _, f := range c.Fields {
		if typ, err := eval.Type(field(f.Name), c); typ != f.Type || err != api.OK {
			t.Errorf("%s is of %v, %d", f.Name, typ, err)
		}
	}
	if v, err := eval.Eval(op("&", field("t"), call("text", field("n"))), c, []api.Val{numV(7), textV("ab"), {}}); !val.Same(v, textV("ab7")) || err != api.OK {
		t.Errorf("%v, %d", v, err)
	}
}

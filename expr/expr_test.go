package expr_test

import (
	"math"
	"math/rand"
	"slices"
	"strings"
	"testing"

	"moraine/api"
	"moraine/expr"
)

func num(n int) api.Expr      { return api.Expr{Kind: api.ENum, N: n} }
func text(s string) api.Expr  { return api.Expr{Kind: api.EText, S: s} }
func field(s string) api.Expr { return api.Expr{Kind: api.EField, S: s} }
func op(sign string, a, b api.Expr) api.Expr {
	return api.Expr{Kind: api.EOp, S: sign, Kids: []api.Expr{a, b}}
}
func ahead(e api.Expr) api.Expr { return api.Expr{Kind: api.EAhead, S: "-", Kids: []api.Expr{e}} }
func call(name string, kids ...api.Expr) api.Expr {
	return api.Expr{Kind: api.ECall, S: name, Kids: kids}
}
func chain(n int, wrap func(api.Expr) api.Expr) api.Expr {
	e := field("a")
	for range n - 1 {
		e = wrap(e)
	}
	return e
}

// balanced is a right tree, but that it has n nodes, as flat as may be.
func balanced(n int) api.Expr {
	switch {
	case n == 1:
		return num(7)
	case n == 2:
		return ahead(num(7))
	}
	return op("*", balanced((n-1)/2), balanced(n-1-(n-1)/2))
}

// chains are trees of one node within another, n of them.
func chains(n int) []api.Expr {
	return []api.Expr{
		chain(n, ahead),
		chain(n, func(e api.Expr) api.Expr { return op("+", e, num(1)) }),
		chain(n, func(e api.Expr) api.Expr { return op("+", num(1), e) }),
		chain(n, func(e api.Expr) api.Expr { return call("len", e) }),
		chain(n, func(e api.Expr) api.Expr { return call("if", num(1), e, text("")) }),
		chain(n, func(e api.Expr) api.Expr { return call("max", num(1), e) }),
	}
}

// rightNames are right names, calls' among them, wrongNames others.
func rightNames() []string {
	l := []string{"a", "z", "m", "aa", "a_", "a0", "z9", "a_b_c_1", "lenx", "le", "i", "iff", "field", strings.Repeat("a", 20), strings.Repeat("z_9", 6) + "z_"}
	for name := range calls {
		l = append(l, name)
	}
	slices.Sort(l)
	return l
}

func wrongNames() []string {
	return []string{"", "_", "0", "9a", "_a", "A", "aA", "Len", "é", "aé", "a b", " a", "a ", "a-b", "a.b", "a(", "-", "+", "\xff", "a\xff", "a\x00", "a\n", "a\u0301", "ａ", strings.Repeat("a", 21), strings.Repeat("a", 1<<20)}
}

// rightTexts are texts that an expression may have, wrongTexts others.
func rightTexts() []string {
	l := []string{"", " ", "a", "a b", "é", "\u0080", "\u009f", "\ufffd", "\ufeff", "\U0010ffff", "€", "日本", "\\", "\"", "\\\"", "\"\\", "\\\\", "\"\"", `\n`, "(", ")", "a + b", ",", "-", "1", "~", "`", "'",
		strings.Repeat("x", 60), strings.Repeat(`"`, 60), strings.Repeat(`\`, 60), strings.Repeat("é", 30), strings.Repeat("€", 20), strings.Repeat("𝄞", 15)}
	for c := byte(0x20); c < 0x7f; c++ {
		l = append(l, "b"+string(rune(c)))
	}
	return l
}

func wrongTexts() []string {
	l := []string{"\x7f", "a\x7fb", "\n", "a\tb", "\x00", "\xff", "\x80", "a\xc3", "\xc3(", "\xed\xa0\x80", "\xc0\x80", "\xf4\x90\x80\x80", "é\xa9", strings.Repeat("x", 61), strings.Repeat(`"`, 61), strings.Repeat(`\`, 61), "x" + strings.Repeat("é", 30), strings.Repeat("x", 200), strings.Repeat("x", 1<<20)}
	for c := byte(0); c < 0x20; c++ {
		l = append(l, "b"+string(rune(c)))
	}
	return l
}

// smallTrees are all trees of one node within another, of all operators and of calls of each number of Kids.
func smallTrees() []api.Expr {
	a := field("a")
	small := []api.Expr{a, num(0), text(""), ahead(a), call("len", a), call("left", a, a), call("if", a, a, a)}
	for _, sign := range operators() {
		small = append(small, op(sign, a, num(2)))
	}
	l := slices.Clone(small)
	for _, e := range small {
		l = append(l, ahead(e), call("text", e), call("num", e), call("right", e, a), call("from", a, e), call("find", e, e), call("if", e, a, e), call("if", a, e, a), call("min", e, a), call("max", a, e))
		for _, d := range small {
			for _, sign := range operators() {
				l = append(l, op(sign, e, d))
			}
		}
	}
	return l
}

// rightTrees are right trees, those at each edge among them.
func rightTrees() []api.Expr {
	l := smallTrees()
	for _, s := range rightNames() {
		l = append(l, field(s), ahead(field(s)), call("len", field(s)), op("<", field(s), field(s)))
	}
	for _, s := range rightTexts() {
		l = append(l, text(s), op("&", text(s), text(s)), call("len", text(s)))
	}
	for _, n := range []int{1, 9, 10, 255, 256, 1 << 31, 1<<32 + 1, api.MaxNum - 1, api.MaxNum} {
		l = append(l, num(n), ahead(num(n)), op("-", num(n), num(n)))
	}
	for n := range 8 {
		l = append(l, chains(n+1)...)
	}
	for n := range 40 {
		l = append(l, balanced(n+1))
	}
	r := rand.New(rand.NewSource(5))
	for range 2000 {
		l = append(l, randomTree(r))
	}
	return l
}

// randomTree is a right tree.
func randomTree(r *rand.Rand) api.Expr {
	left, names, texts, leaves := 40-3*r.Intn(10), rightNames(), rightTexts(), r.Intn(6)+1
	var grow func(deep int) api.Expr
	grow = func(deep int) api.Expr {
		left--
		kind := r.Intn(6 + leaves)
		switch {
		case kind < 3 && deep < 8 && left >= 16:
			left -= 2
			return op(operators()[r.Intn(12)], grow(deep+1), grow(deep+1))
		case kind == 3 && deep < 8:
			return ahead(grow(deep + 1))
		case kind < 6 && deep < 8 && left >= 24:
			e := call([]string{"len", "left", "right", "from", "find", "text", "num", "if", "min", "max"}[r.Intn(10)])
			left -= calls[e.S]
			for range calls[e.S] {
				e.Kids = append(e.Kids, grow(deep+1))
			}
			return e
		case kind%3 == 0:
			return num(r.Intn(1<<r.Intn(50)) % (api.MaxNum + 1))
		case kind%3 == 1:
			return text(texts[r.Intn(len(texts))])
		}
		return field(names[r.Intn(len(names))])
	}
	return grow(1)
}

// wrongNodes are nodes that are not right, whose Kids are.
func wrongNodes() []api.Expr {
	a := field("a")
	l := []api.Expr{{}, {N: 1}, {S: "a"}, {Kids: []api.Expr{a}}, num(-1), num(math.MinInt), num(math.MaxInt), num(api.MaxNum + 1), {Kind: api.ENum, S: "1"}, {Kind: api.ENum, Kids: []api.Expr{num(1)}},
		{Kind: api.EText, S: "a", N: 1}, {Kind: api.EText, S: "a", Kids: []api.Expr{a}}, {Kind: api.EField, S: "a", N: 1}, {Kind: api.EField, S: "a", N: -1}, {Kind: api.EField, S: "a", Kids: []api.Expr{a}}, {Kind: api.EField, S: "len", Kids: []api.Expr{a}},
		{Kind: api.EAhead, S: "-"}, {Kind: api.EAhead, S: "-", Kids: []api.Expr{a, a}}, {Kind: api.EAhead, S: "-", N: 1, Kids: []api.Expr{a}}, call("len"), call("if"), call("left", slices.Repeat([]api.Expr{a}, 100)...)}
	for _, kind := range []int{math.MinInt, -1, 0, 7, 8, 256 + 1, 1<<32 + 1, math.MaxInt} {
		l = append(l, api.Expr{Kind: kind}, api.Expr{Kind: kind, S: "a"}, api.Expr{Kind: kind, S: "-", Kids: []api.Expr{a}}, api.Expr{Kind: kind, S: "-", Kids: []api.Expr{a, a}})
	}
	for _, s := range wrongNames() {
		l = append(l, field(s))
	}
	for _, s := range wrongTexts() {
		l = append(l, text(s))
	}
	for _, sign := range append(operators(), "", "(", ")", ",", "==", "!", "!=", "=<", "=>", "><", " +", "+ ", "++", "--", "and", "len", "a", "^", "\xff") {
		some := api.Expr{Kind: api.EOp, S: sign}
		for _, n := range []int{0, 1, 2, 3} {
			some.Kids = slices.Repeat([]api.Expr{a}, n)
			if n != 2 || !slices.Contains(operators(), sign) {
				l = append(l, some)
			}
		}
		if sign != "-" {
			l = append(l, api.Expr{Kind: api.EAhead, S: sign, Kids: []api.Expr{a}})
		}
		l = append(l, api.Expr{Kind: api.EOp, N: 1, S: sign, Kids: []api.Expr{a, a}})
	}
	for _, name := range append(wrongNames(), append(rightNames(), "+", "-", "(", "LEN", "len ", "sum", "mid", "abs")...) {
		for n := range 5 {
			kids := slices.Repeat([]api.Expr{a}, n)
			if calls[name] == 0 || n != calls[name] {
				l = append(l, call(name, kids...))
			}
			l = append(l, api.Expr{Kind: api.ECall, N: 1, S: name, Kids: kids})
		}
	}
	return l
}

// wrongTrees are trees that are not right, wherever the fault stands.
func wrongTrees() []api.Expr {
	a := field("a")
	l := wrongNodes()
	for _, e := range wrongNodes() {
		l = append(l, ahead(e), op("+", e, a), op("+", a, e), call("len", e), call("if", e, a, a), call("if", a, e, a), call("if", a, a, e), op("&", op("&", a, a), call("left", a, ahead(e))))
	}
	for n := 9; n < 14; n++ {
		l = append(l, chains(n)...)
		for _, e := range chains(n - 2) {
			l = append(l, op("*", a, call("text", e)), op("*", call("text", e), a), call("if", a, a, ahead(e)))
		}
	}
	for n := 41; n < 70; n++ {
		l = append(l, balanced(n))
	}
	return l
}

// P5.2: which trees are right.
func TestRight(t *testing.T) {
	for _, e := range rightTrees() {
		if !expr.Right(e) || !plainRight(e) {
			t.Errorf("%+v is not right", e)
		}
	}
	for _, e := range wrongTrees() {
		if expr.Right(e) || plainRight(e) {
			t.Errorf("%.300q is right: %d", e.S, e.Kind)
		}
	}
	for _, e := range []api.Expr{num(1), text("a"), field("a")} {
		e.Kids = []api.Expr{}
		if !expr.Right(e) {
			t.Errorf("%+v, with an empty list", e)
		}
	}
}

// P5.2: how deep, and of how many nodes, right trees are.
func TestRightSizes(t *testing.T) {
	for n := 1; n < 20; n++ {
		for i, e := range chains(n) {
			if expr.Right(e) != (n <= 8) {
				t.Errorf("chain %d of %d: %t", i, n, n > 8)
			}
		}
	}
	for n := 1; n < 100; n++ {
		if expr.Right(balanced(n)) != (n <= 40) {
			t.Errorf("%d nodes: %t", n, n > 40)
		}
	}
	for n := 30; n < 50; n++ {
		e := call("if", balanced(n-8), call("max", num(1), num(2)), call("len", ahead(num(3))))
		if expr.Right(e) != (nodes(e) <= 40) {
			t.Errorf("%d nodes: %t", nodes(e), nodes(e) > 40)
		}
	}
}

// R1: trees that are not right are told soon, however large they are, or if a list holds itself.
func TestRightEnds(t *testing.T) {
	one, two, three := make([]api.Expr, 1), make([]api.Expr, 2), make([]api.Expr, 3)
	one[0] = api.Expr{Kind: api.EAhead, S: "-", Kids: one}
	two[0] = api.Expr{Kind: api.EOp, S: "+", Kids: two}
	two[1] = two[0]
	three[0] = api.Expr{Kind: api.ECall, S: "if", Kids: three}
	three[1], three[2] = three[0], three[0]
	shared := num(1)
	for range 200 {
		shared = op("+", shared, shared)
	}
	for i, e := range []api.Expr{one[0], two[0], two[1], three[2], shared, chain(1<<16, ahead), call("if", slices.Repeat([]api.Expr{num(1)}, 1<<20)...), {Kind: 7, Kids: two}} {
		if expr.Right(e) {
			t.Error(i)
		}
		if s, err := expr.Print(e); s != "" || err != api.ErrExpr {
			t.Errorf("%d: %q, %d", i, s, err)
		}
	}
}

// clone is a tree made anew, with empty lists for none.
func clone(e api.Expr) api.Expr {
	d := api.Expr{Kind: e.Kind, N: e.N, S: strings.Clone(e.S), Kids: []api.Expr{}}
	for _, kid := range e.Kids {
		d.Kids = append(d.Kids, clone(kid))
	}
	return d
}

// turned are trees that are e but for one part.
func turned(e api.Expr) []api.Expr {
	var l []api.Expr
	for _, turn := range []func(*api.Expr){func(e *api.Expr) { e.Kind++ }, func(e *api.Expr) { e.N++ }, func(e *api.Expr) { e.N-- }, func(e *api.Expr) { e.S += "a" }, func(e *api.Expr) { e.S = "\x00" + e.S }, func(e *api.Expr) { e.Kids = append(e.Kids, api.Expr{}) }} {
		d := clone(e)
		turn(&d)
		l = append(l, d)
	}
	for i := range e.Kids {
		d := clone(e)
		d.Kids = slices.Delete(d.Kids, i, i+1)
		l = append(l, d)
		for _, kid := range turned(e.Kids[i]) {
			d := clone(e)
			d.Kids[i] = kid
			l = append(l, d)
		}
	}
	return l
}

// P5.2: what was made anew of the same parts is the same, right or not, and nothing with another part.
func TestSame(t *testing.T) {
	for _, e := range slices.Concat(rightTrees(), wrongNodes()) {
		if d := clone(e); !expr.Same(e, d) || !expr.Same(d, e) || !expr.Same(e, e) {
			t.Errorf("%+v is not the same", e)
		}
		if len(e.S) > 100 || len(e.Kids) > 10 || depth(e) > 4 {
			continue
		}
		for i, d := range turned(e) {
			if expr.Same(e, d) || expr.Same(d, e) {
				t.Errorf("%+v is the same, turned: %d", e, i)
			}
		}
	}
	a, b := field("a"), field("b")
	if expr.Same(op("+", a, b), op("+", b, a)) || expr.Same(op("+", a, op("+", a, b)), op("+", op("+", a, a), b)) || expr.Same(api.Expr{}, api.Expr{Kids: []api.Expr{{}}}) {
		t.Error("Kids in another order")
	}
	if !expr.Same(api.Expr{}, api.Expr{Kids: []api.Expr{}}) || expr.Same(num(1), num(math.MaxInt)) || expr.Same(text("a"), field("a")) || expr.Same(text("\xff"), text("\ufffd")) {
		t.Error("no Kids, other kinds and texts")
	}
}

// P5.2: two of many trees are the same just when all parts are, however deep they are.
func TestSameOfMany(t *testing.T) {
	l := smallTrees()[:400]
	for i, e := range l {
		for k, d := range l {
			if expr.Same(e, d) != same(e, d) {
				t.Errorf("%d %+v and %d %+v: %t", i, e, k, d, !same(e, d))
			}
		}
	}
	deep, other := chain(1<<16, ahead), chain(1<<16, ahead)
	if !expr.Same(deep, other) || expr.Same(deep, ahead(other)) || expr.Same(ahead(other), deep) {
		t.Error("65536 nodes within one another")
	}
}

// R3: what is handed in is not written into, nor its spare room.
func TestMemory(t *testing.T) {
	for _, e := range rightTrees() {
		kids := append(slices.Clone(e.Kids), num(-3), num(-4))
		was := clone(api.Expr{Kids: kids})
		e.Kids = kids[:len(e.Kids)]
		expr.Right(e)
		expr.Same(e, e)
		expr.Print(e)
		if !same(was, api.Expr{Kids: kids}) {
			t.Fatalf("%+v, of %+v", kids, was)
		}
	}
}

package change_test

import (
	"math"
	"math/rand"
	"slices"
	"strings"
	"testing"

	"moraine/api"
	"moraine/change"
	"moraine/class"
	"moraine/sample"
	"moraine/val"
)

var (
	numV, textV, refV, weakV, listV = sample.Num, sample.Text, sample.Ref, sample.Weak, sample.List

	kind, listOf, rightTypes = sample.Kind, sample.ListOf, sample.Types
	field, indexed, of       = sample.Field, sample.Indexed, sample.Class
	node, pair, whole        = sample.Node, sample.Pair, sample.Whole
	classes, wrongClasses    = sample.Classes, sample.WrongClasses
	fittings, fill           = sample.Fittings, sample.Fill

	add, drop, rename, turn, split, index = sample.Add, sample.Drop, sample.Rename, sample.Turn, sample.Split, sample.Index

	numType, textType, refType, weakType = kind(api.Num), kind(api.Text), kind(api.Ref), kind(api.Weak)
)

// check holds what is told of a change against the chapter's words, and P7.5's of what comes of it.
func check(t *testing.T, c api.Class, ch api.Change, vals []api.Val) bool {
	t.Helper()
	right := plainRight(c, ch)
	if got := change.Right(c, ch); got != right {
		t.Fatalf("%+v of %+v is right: %t", ch, c, got)
	}
	d, err := change.Apply(c, ch)
	if want, told := plainApply(c, ch); !class.Same(d, want) || err != told {
		t.Fatalf("%+v of %+v: %+v, %d, not %+v, %d", ch, c, d, err, want, told)
	}
	l, failed := change.Vals(c, ch, vals)
	if want, told := plainVals(c, ch, vals); !val.Same(listV(l...), listV(want...)) || failed != told {
		t.Fatalf("%+v of %+v, %+v: %+v, %d, not %+v, %d", ch, c, vals, l, failed, want, told)
	}
	if _, told := class.Check(d, l); failed == api.OK && (!class.Right(d) || told != api.OK) {
		t.Fatalf("%+v of %+v, %+v: %+v, %+v", ch, c, vals, d, l)
	}
	return right
}

// names, types and expressions from which changes are made, right and wrong ones.
func names(c api.Class) []string {
	l := []string{"x", "y", "", "X", "1", "n n", "é", strings.Repeat("x", 20), strings.Repeat("x", 21)}
	for _, f := range c.Fields {
		l = append(l, f.Name)
	}
	return l
}

func types() []api.Type {
	return append(rightTypes(), api.Type{}, listOf(0), listOf(api.List), listOf(-1), kind(6), kind(-1), api.Type{Kind: api.Num, Of: api.Num}, api.Type{Kind: math.MaxInt}, api.Type{Of: 1})
}

func expressions() []string {
	return []string{"", "5", `"x"`, "n", "t", "r", "w", "ns", "ts", "rs", "ws", "n + 1", "text(n)", "n/0", `t & "!"`, "len(t)", "if(n > 5, left(t, 1), t)", "x", "next", "n + t", "len(n)",
		" ", "n +", "(n", "N", "n n", `"`, "\xff", "n;", "--------n", "+", strings.Repeat("1", 17), "1" + strings.Repeat(" ", 199), "1" + strings.Repeat(" ", 200)}
}

// P7.1 to P7.3: the chapter's examples.
func TestExamples(t *testing.T) {
	c := of("c", field("name", textType))
	ch := split("name", "one", "more", textType, "left(name, 2)", "from(name, 3)")
	d, err := change.Apply(c, ch)
	if !class.Same(d, of("c", field("one", textType), field("more", textType))) || err != api.OK || !change.Right(c, ch) {
		t.Errorf("%+v, %d", d, err)
	}
	if l, err := change.Vals(c, ch, []api.Val{textV("ab c")}); !val.Same(listV(l...), listV(textV("ab"), textV("c"))) || err != api.OK {
		t.Errorf("%+v, %d", l, err)
	}
	c, ch = of("c", field("n", numType)), turn("n", textType, "text(n)")
	if d, err := change.Apply(c, ch); !class.Same(d, of("c", field("n", textType))) || err != api.OK || !change.Right(c, ch) {
		t.Errorf("%+v, %d", d, err)
	}
	if l, err := change.Vals(c, ch, []api.Val{numV(7)}); !val.Same(listV(l...), listV(textV("7"))) || err != api.OK {
		t.Errorf("%+v, %d", l, err)
	}
}

// P7.1 to P7.3: right changes of one class, and what each leaves, written out.
func TestEachKind(t *testing.T) {
	a, b, d := indexed("a", numType), indexed("b", textType), field("d", refType)
	c, vals := of("c", a, b, d), []api.Val{numV(3), textV("xyz"), refV(9)}
	for i, x := range []struct {
		ch     api.Change
		fields []api.Field
		vals   []api.Val
	}{
		{add("e", numType, ""), []api.Field{a, b, d, field("e", numType)}, []api.Val{vals[0], vals[1], vals[2], numV(0)}},
		{add("e", textType, "b & text(a)"), []api.Field{a, b, d, field("e", textType)}, []api.Val{vals[0], vals[1], vals[2], textV("xyz3")}},
		{add("e", refType, "d"), []api.Field{a, b, d, field("e", refType)}, []api.Val{vals[0], vals[1], vals[2], refV(9)}},
		{add("e", refType, ""), []api.Field{a, b, d, field("e", refType)}, []api.Val{vals[0], vals[1], vals[2], {}}},
		{add("e", listOf(api.Weak), ""), []api.Field{a, b, d, field("e", listOf(api.Weak))}, []api.Val{vals[0], vals[1], vals[2], listV()}},
		{drop("a"), []api.Field{b, d}, []api.Val{vals[1], vals[2]}},
		{drop("b"), []api.Field{a, d}, []api.Val{vals[0], vals[2]}},
		{drop("d"), []api.Field{a, b}, []api.Val{vals[0], vals[1]}},
		{rename("a", "z"), []api.Field{indexed("z", numType), b, d}, vals},
		{rename("b", "aa"), []api.Field{a, indexed("aa", textType), d}, vals},
		{rename("d", "c"), []api.Field{a, b, field("c", refType)}, vals},
		{turn("a", numType, "a*2"), []api.Field{field("a", numType), b, d}, []api.Val{numV(6), vals[1], vals[2]}},
		{turn("b", numType, "len(b) + a"), []api.Field{a, field("b", numType), d}, []api.Val{vals[0], numV(6), vals[2]}},
		{turn("b", refType, "d"), []api.Field{a, field("b", refType), d}, []api.Val{vals[0], refV(9), vals[2]}},
		{turn("d", weakType, ""), []api.Field{a, b, field("d", weakType)}, []api.Val{vals[0], vals[1], {}}},
		{turn("a", textType, ""), []api.Field{field("a", textType), b, d}, []api.Val{textV(""), vals[1], vals[2]}},
		{split("a", "p", "q", numType, "a/2", "a%2"), []api.Field{field("p", numType), field("q", numType), b, d}, []api.Val{numV(1), numV(1), vals[1], vals[2]}},
		{split("b", "b", "q", textType, "left(b,1)", "from(b,1)"), []api.Field{a, field("b", textType), field("q", textType), d}, []api.Val{vals[0], textV("x"), textV("yz"), vals[2]}},
		{split("b", "q", "b", numType, "", "len(b)"), []api.Field{a, field("q", numType), field("b", numType), d}, []api.Val{vals[0], numV(0), numV(3), vals[2]}},
		{split("d", "p", "q", refType, "d", ""), []api.Field{a, b, field("p", refType), field("q", refType)}, []api.Val{vals[0], vals[1], refV(9), {}}},
		{index("a"), []api.Field{field("a", numType), b, d}, vals},
		{index("b"), []api.Field{a, field("b", textType), d}, vals},
		{index("d"), []api.Field{a, b, indexed("d", refType)}, vals},
	} {
		if !check(t, c, x.ch, vals) {
			t.Errorf("%d: %+v is not right", i, x.ch)
		}
		if e, err := change.Apply(c, x.ch); !class.Same(e, of("c", x.fields...)) || err != api.OK {
			t.Errorf("%d: %+v, %d", i, e, err)
		}
		if l, err := change.Vals(c, x.ch, vals); !val.Same(listV(l...), listV(x.vals...)) || err != api.OK {
			t.Errorf("%d: %+v, %d", i, l, err)
		}
	}
}

// P7.1: changes that are not right, each for one fault alone, though well formed.
func TestNotRight(t *testing.T) {
	c, full := of("c", field("n", numType), field("t", textType), field("w", weakType), field("ns", listOf(api.Num))), whole()
	for _, x := range []struct {
		c  api.Class
		ch api.Change
	}{
		{full, add("x", numType, "")}, {c, add("n", numType, "")}, {c, add("ns", textType, "t")}, {c, add("x", numType, "t")}, {c, add("x", numType, "x")}, {c, add("x", textType, "n")}, {c, add("x", refType, "w")}, {c, add("x", weakType, "n")}, {c, add("x", listOf(api.Text), "ns")}, {c, add("x", listOf(api.Num), "n")}, {c, add("x", numType, "n + t")}, {c, add("x", numType, "ns")},
		{c, drop("x")}, {c, drop("nn")}, {c, drop("c")}, {of("c"), drop("c")},
		{c, rename("x", "y")}, {c, rename("n", "t")}, {c, rename("n", "n")}, {c, rename("x", "n")}, {c, rename("t", "ns")},
		{c, turn("x", numType, "")}, {c, turn("n", textType, "n")}, {c, turn("n", numType, "t")}, {c, turn("n", numType, "x")}, {c, turn("n", weakType, "ns")}, {c, turn("ns", numType, "ns")}, {c, turn("n", textType, "n & t")},
		{c, split("x", "a", "b", numType, "", "")}, {full, split("n", "a", "b", numType, "", "")}, {full, split("n", "n", "b", numType, "", "")}, {c, split("n", "a", "a", numType, "", "")}, {c, split("n", "n", "n", numType, "", "")}, {c, split("n", "t", "b", numType, "", "")}, {c, split("n", "a", "t", numType, "", "")}, {c, split("n", "n", "t", numType, "", "")}, {c, split("n", "a", "b", numType, "t", "n")}, {c, split("n", "a", "b", numType, "n", "t")}, {c, split("n", "a", "b", textType, "", "n")}, {c, split("n", "a", "b", textType, "n", "")}, {c, split("n", "a", "b", numType, "a", "")}, {c, split("n", "a", "b", numType, "n", "a")},
		{c, index("x")}, {c, index("w")}, {c, index("ns")}, {of("n"), index("n")},
	} {
		if _, err := change.Encode(x.ch); err != api.OK {
			t.Errorf("%+v is not well formed", x.ch)
		}
		if check(t, x.c, x.ch, fittings(x.c, 1)) {
			t.Errorf("%+v of %+v is right", x.ch, x.c)
		}
	}
	less := of("c", full.Fields[:7]...)
	for _, ch := range []api.Change{add("x", numType, ""), split("n", "x", "n", numType, "", "n")} {
		if !check(t, less, ch, fittings(less, 1)) {
			t.Errorf("%+v is not right, with room for one more", ch)
		}
	}
}

// P7.1 to P7.3: of many classes all changes that are made from some names, types and expressions; of splits many.
func TestAll(t *testing.T) {
	r := rand.New(rand.NewSource(7))
	for i, c := range classes() {
		vals, l := fittings(c, i+1), names(c)
		for _, a := range l {
			check(t, c, drop(a), vals)
			check(t, c, index(a), vals)
			for _, b := range l {
				check(t, c, rename(a, b), vals)
			}
			for _, typ := range types() {
				for _, s := range expressions() {
					check(t, c, add(a, typ, s), vals)
					check(t, c, turn(a, typ, s), vals)
				}
			}
		}
		pick := func(l []string) string { return l[r.Intn(len(l))] }
		for range 3000 {
			check(t, c, split(pick(l), pick(l), pick(l), types()[r.Intn(17)], pick(expressions()), pick(expressions())), vals)
		}
	}
}

// P7.1 to P7.3: splits that are right but, often, for one part, of all types and their expressions.
func TestSplits(t *testing.T) {
	c := of("c", whole().Fields[:7]...)
	for _, typ := range rightTypes() {
		for _, s := range expressions() {
			for _, other := range expressions() {
				check(t, c, split("t", "x", "y", typ, s, other), fittings(c, 2))
			}
		}
	}
	for _, a := range names(c) {
		for _, b := range names(c) {
			for _, f := range c.Fields {
				check(t, c, split(f.Name, a, b, numType, "n", ""), fittings(c, 2))
			}
		}
	}
}

// spoilt are changes that are one but for one part.
func spoilt(ch api.Change) []api.Change {
	var l []api.Change
	put := func(do func(*api.Change)) {
		d := ch
		do(&d)
		l = append(l, d)
	}
	for _, k := range []int{math.MinInt, -1, 0, 1, 2, 3, 4, 5, 6, 7, 8, 257, 1<<32 + 1, math.MaxInt} {
		put(func(d *api.Change) { d.Kind = k })
	}
	for _, s := range append(names(pair()), "_", "a-b", "x\x00", "\xff") {
		put(func(d *api.Change) { d.Field = s })
		put(func(d *api.Change) { d.Name = s })
		put(func(d *api.Change) { d.More = s })
	}
	for _, t := range types() {
		put(func(d *api.Change) { d.Type = t })
	}
	for _, s := range expressions() {
		put(func(d *api.Change) { d.Expr = s })
		put(func(d *api.Change) { d.Other = s })
	}
	return l
}

// formed are well formed changes, of each kind.
func formed() []api.Change {
	long := strings.Repeat("x", 20)
	return []api.Change{add("x", numType, ""), add("x", textType, "t"), add(long, listOf(api.Weak), "ws"), drop("n"), drop(long), rename("n", "x"), rename("n", "n"), rename(long, "a_9"), turn("n", textType, "text(n)"), turn("t", refType, ""), split("n", "x", "y", numType, "n/2", "n%2"), split("t", "t", "y", textType, "", ""), split("t", "y", "t", textType, "t", `"" & t`), split("x", "x", "x", listOf(api.Ref), "", "1"+strings.Repeat(" ", 199)), index("n"), index("w")}
}

// Words: what is well formed, and what is not, at each part of each kind; P7.1 to P7.3 tell it, and P7.4.
func TestWellFormed(t *testing.T) {
	for _, ch := range formed() {
		if !plainFormed(ch) {
			t.Errorf("%+v is not well formed", ch)
		}
		for _, d := range append(spoilt(ch), ch) {
			check(t, pair(), d, fittings(pair(), 1))
			s, err := change.Encode(d)
			if plainFormed(d) != (err == api.OK) || err != api.OK && (s != "" || err != api.ErrChange) {
				t.Errorf("%+v: %x, %d", d, s, err)
			}
		}
	}
}

// P7.1: what is made anew of the same parts is the same, well formed or not, and nothing with another part.
func TestSame(t *testing.T) {
	l := append(formed(), api.Change{}, api.Change{Kind: 9, More: "\xff"}, api.Change{Kind: -1, Field: "a", Name: "b", More: "c", Type: api.Type{Kind: 7, Of: 8}, Expr: "(", Other: ")"})
	for i, a := range l {
		for k, b := range l {
			if change.Same(a, b) != (i == k) {
				t.Errorf("%+v and %+v: %t", a, b, i != k)
			}
		}
		b := a
		b.Expr, b.Name = strings.Clone(a.Expr), strings.Clone(a.Name)
		if !change.Same(a, b) {
			t.Errorf("%+v is not the same", a)
		}
		for _, do := range []func(*api.Change){func(d *api.Change) { d.Kind++ }, func(d *api.Change) { d.Field += "a" }, func(d *api.Change) { d.Name += "a" }, func(d *api.Change) { d.More += "a" }, func(d *api.Change) { d.Type.Kind++ }, func(d *api.Change) { d.Type.Of++ }, func(d *api.Change) { d.Expr += " " }, func(d *api.Change) { d.Other += " " }} {
			d := a
			do(&d)
			if change.Same(a, d) || change.Same(d, a) {
				t.Errorf("%+v is the same as %+v", a, d)
			}
		}
	}
}

// P7.1 to P7.3: of a class that is not right nothing is right; that is told ahead of all else.
func TestWrongClass(t *testing.T) {
	for _, c := range wrongClasses() {
		for _, ch := range append(formed(), add("x", numType, "n"), drop("m"), index("m"), rename("m", "x"), api.Change{}, drop("X")) {
			for _, vals := range [][]api.Val{nil, {numV(1)}, fittings(c, 1), make([]api.Val, len(c.Fields))} {
				check(t, c, ch, vals)
				if _, err := change.Apply(c, ch); err != api.ErrClass {
					t.Errorf("%+v of %+v: %d", ch, c, err)
				}
				if _, err := change.Vals(c, ch, vals); err != api.ErrClass {
					t.Errorf("%+v of %+v: %d", ch, c, err)
				}
			}
		}
	}
}

// P7.3: of values that do not fit that is told, whether the change is right or not.
func TestWrongVals(t *testing.T) {
	c, n, s := pair(), numV(1), textV("a")
	for _, vals := range [][]api.Val{nil, {n}, {s}, {n, s, n}, {s, n}, {n, n}, {{}, s}, {n, {}}, {n, refV(1)}, {n, listV(s)}, {numV(api.MaxNum + 1), s}, {n, textV(strings.Repeat("x", 61))}, {n, textV("\xff")}, {{Kind: api.Num, N: 1, S: "x"}, s}, {{Kind: 9}, s}, {n, s, {}}} {
		for _, ch := range []api.Change{add("x", numType, ""), drop("n"), drop("t"), rename("n", "x"), turn("t", numType, ""), split("t", "a", "b", numType, "", ""), index("n"), drop("x"), {}, {Kind: 9}, add("n", numType, ""), add("x", numType, "(")} {
			check(t, c, ch, vals)
			if l, err := change.Vals(c, ch, vals); len(l) > 0 || err != api.ErrFit {
				t.Errorf("%+v of %+v: %+v, %d", ch, vals, l, err)
			}
		}
	}
}

// P7.3: values at the edges are told on as they were; what an expression tells of them is cut as eval cuts it.
func TestEdges(t *testing.T) {
	c := whole()
	long := strings.Repeat("é", 30)
	vals := []api.Val{numV(-api.MaxNum), textV(long), refV(-20), weakV(100000), listV(slices.Repeat([]api.Val{numV(api.MaxNum)}, 12)...), listV(textV(""), textV(`"\`)), listV(api.Val{}, refV(-1), refV(100000)), listV(api.Val{}, weakV(1))}
	for _, f := range c.Fields {
		for _, g := range c.Fields {
			for _, ch := range []api.Change{drop(f.Name), rename(f.Name, "x"), turn(f.Name, g.Type, g.Name), turn(f.Name, g.Type, ""), index(f.Name)} {
				if check(t, c, ch, vals) != (ch.Kind != api.ChIndex || f.Type.Of == 0 && f.Type.Kind != api.Weak) {
					t.Errorf("%+v", ch)
				}
			}
		}
	}
	for _, x := range []struct {
		ch api.Change
		v  api.Val
	}{
		{turn("n", numType, "n - 1"), numV(-api.MaxNum)}, {turn("n", numType, "n * n"), numV(api.MaxNum)}, {turn("n", textType, "text(n)"), textV("-1000000000000000")}, {turn("n", textType, `"x" & t`), textV("x" + strings.Repeat("é", 29))}, {turn("n", numType, "n/0"), numV(0)}, {turn("n", numType, "len(t)"), numV(30)}, {turn("n", numType, "num(t)"), numV(0)},
	} {
		if l, err := change.Vals(c, x.ch, vals); err != api.OK || !val.Same(l[0], x.v) || !val.Same(listV(l[1:]...), listV(vals[1:]...)) {
			t.Errorf("%+v: %+v, %d", x.ch, l, err)
		}
	}
}

// R1: what is not right is told soon, however large it is.
func TestEnds(t *testing.T) {
	huge := strings.Repeat("x", 1<<18)
	c, big := pair(), pair()
	big.Fields = slices.Repeat(c.Fields, 1<<20)
	for _, ch := range []api.Change{drop(huge), add(huge, numType, ""), add("x", numType, huge), rename("n", huge), turn("n", textType, huge), split("n", "x", huge, textType, "", ""), split("n", "x", "y", textType, "", huge), {Kind: api.ChDrop, Field: "n", Other: huge}, {Kind: math.MinInt}, {Kind: math.MaxInt}} {
		check(t, c, ch, fittings(c, 1))
		check(t, big, ch, nil)
		if s, err := change.Encode(ch); s != "" || err != api.ErrChange {
			t.Errorf("%d: %d bytes, %d", ch.Kind, len(s), err)
		}
	}
	check(t, c, drop("n"), slices.Repeat(fittings(c, 1), 1<<20))
	nested := numV(1)
	for range 1 << 16 {
		nested = listV(nested)
	}
	if _, err := change.Vals(of("c", field("ns", listOf(api.Num))), drop("ns"), []api.Val{nested}); err != api.ErrFit {
		t.Error(err)
	}
}

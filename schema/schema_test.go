package schema_test

import (
	"math"
	"slices"
	"strings"
	"testing"

	"moraine/api"
	"moraine/change"
	"moraine/class"
	"moraine/sample"
	"moraine/schema"
	"moraine/val"
)

var (
	numV, textV, listV        = sample.Num, sample.Text, sample.List
	field, indexed, of        = sample.Field, sample.Indexed, sample.Class
	numType, textType, listOf = sample.Kind(api.Num), sample.Kind(api.Text), sample.ListOf
	add, drop, rename, index  = sample.Add, sample.Drop, sample.Rename, sample.Index
	turn, split, fill         = sample.Turn, sample.Split, sample.Fill
)

func line(c api.Class, l ...api.Change) api.Line { return api.Line{First: c, Changes: l} }
func lines(l ...api.Line) api.Schema             { return api.Schema{Lines: l} }

// sameVals says whether values are the same, one by one.
func sameVals(a, b []api.Val) bool { return val.Same(listV(a...), listV(b...)) }

// numbers are those of lines or versions, right and wrong ones.
func numbers(most int) []int {
	l := []int{-1, math.MinInt, math.MaxInt, 1 << 32, most + 1, most + 2}
	for i := range most + 1 {
		l = append(l, i)
	}
	return l
}

// check holds what is told of a schema against the chapter's words.
func check(t *testing.T, s api.Schema) {
	t.Helper()
	i, err := schema.Check(s)
	if want, told := plainCheck(s); i != want || err != told {
		t.Fatalf("%+v: %d, %d, not %d, %d", s, i, err, want, told)
	}
	checkFind(t, s)
	for _, n := range numbers(len(s.Lines)) {
		ver, err := schema.Last(s, n)
		if want, told := plainLast(s, n); ver != want || err != told {
			t.Fatalf("%+v, %d: %d, %d, not %d, %d", s, n, ver, err, want, told)
		}
		checkVersions(t, s, n)
		checkTurn(t, s, n)
	}
	checkAdd(t, s)
}

func checkFind(t *testing.T, s api.Schema) {
	t.Helper()
	for _, l := range append(s.Lines[:len(s.Lines):len(s.Lines)], line(of("")), line(of("nobody")), line(of("C")), line(of("c "))) {
		name := l.First.Name
		i, ok := schema.Find(s, name)
		if want, found := plainFind(s, name); i != want || ok != found {
			t.Fatalf("%+v, %q: %d, %t, not %d, %t", s, name, i, ok, want, found)
		}
	}
}

// versionsOf are versions that are tried of a line: few of each, if there are many lines.
func versionsOf(s api.Schema, number int) []int {
	if number < 0 || number >= len(s.Lines) {
		return []int{-1, 0, 1}
	}
	last := len(s.Lines[number].Changes)
	if len(s.Lines) > 3 {
		return []int{-1, 0, last / 2, last, last + 1}
	}
	return numbers(last)
}

// checkVersions holds what At and Carry tell of a line against the chapter's words.
func checkVersions(t *testing.T, s api.Schema, n int) {
	t.Helper()
	for _, from := range versionsOf(s, n) {
		c, err := schema.At(s, n, from)
		if want, told := plainAt(s, n, from); !class.Same(c, want) || err != told {
			t.Fatalf("%+v, %d, %d: %+v, %d, not %+v, %d", s, n, from, c, err, want, told)
		}
		for i, to := range versionsOf(s, n) {
			checkCarry(t, s, n, from, to, sample.Fittings(c, i%3))
			checkCarry(t, s, n, from, to, append(sample.Fittings(c, 1), numV(5)))
		}
	}
}

func checkCarry(t *testing.T, s api.Schema, n, from, to int, vals []api.Val) {
	t.Helper()
	l, err := schema.Carry(s, n, from, to, vals)
	if want, told := plainCarry(s, n, from, to, vals); !sameVals(l, want) || err != told {
		t.Fatalf("%+v, %d from %d to %d, %+v: %+v, %d, not %+v, %d", s, n, from, to, vals, l, err, want, told)
	}
}

// checkAdd holds what Add tells against the chapter's words.
func checkAdd(t *testing.T, s api.Schema) {
	t.Helper()
	l := append(sample.Classes(), sample.WrongClasses()...)
	for _, m := range s.Lines {
		l = append(l, m.First, of(m.First.Name, field("other", textType)))
	}
	for _, c := range l {
		d, err := schema.Add(s, c)
		if want, told := plainAdd(s, c); !schema.Same(d, want) || !same(d, want) || err != told {
			t.Fatalf("%+v and %+v: %+v, %d, not %+v, %d", s, c, d, err, want, told)
		}
	}
}

// checkTurn holds what Turn tells of a line against the chapter's words.
func checkTurn(t *testing.T, s api.Schema, n int) {
	t.Helper()
	for _, ch := range []api.Change{{}, {Kind: 7}, add("new", numType, ""), add("b", numType, "a"), add("new", numType, "n"), drop("a"), rename("n", "m"), rename("a", "b"), index("n"), index("w"), turn("t", numType, "len(t)"), split("b", "x", "y", textType, "text(b)", "")} {
		d, err := schema.Turn(s, n, ch)
		if want, told := plainTurn(s, n, ch); !schema.Same(d, want) || !same(d, want) || err != told {
			t.Fatalf("%+v, %d and %+v: %+v, %d, not %+v, %d", s, n, ch, d, err, want, told)
		}
	}
}

// same says whether two schemas are the same, part by part.
func same(a, b api.Schema) bool {
	if len(a.Lines) != len(b.Lines) {
		return false
	}
	for i, l := range a.Lines {
		m := b.Lines[i]
		if l.First.Name != m.First.Name || !slices.Equal(l.First.Fields, m.First.Fields) || !slices.Equal(l.Changes, m.Changes) {
			return false
		}
	}
	return true
}

// P8.1 to P8.4: the chapter's examples.
func TestExamples(t *testing.T) {
	c := of("c", field("a", numType))
	s, err := schema.Add(api.Schema{}, c)
	if err != api.OK || !schema.Same(s, lines(line(c))) {
		t.Fatalf("%+v, %d", s, err)
	}
	s, err = schema.Turn(s, 0, add("b", numType, "a*2"))
	if err != api.OK || !schema.Same(s, example()) {
		t.Fatalf("%+v, %d", s, err)
	}
	if l, err := schema.Carry(s, 0, 0, 1, []api.Val{numV(3)}); err != api.OK || !sameVals(l, []api.Val{numV(3), numV(6)}) {
		t.Errorf("%+v, %d", l, err)
	}
	if d, err := schema.At(s, 0, 0); err != api.OK || !class.Same(d, c) {
		t.Errorf("%+v, %d", d, err)
	}
	if d, err := schema.At(s, 0, 1); err != api.OK || !class.Same(d, of("c", field("a", numType), field("b", numType))) {
		t.Errorf("%+v, %d", d, err)
	}
	if d, err := schema.At(s, 0, 2); err != api.ErrVersion || !class.Same(d, api.Class{}) {
		t.Errorf("%+v, %d", d, err)
	}
	if ver, err := schema.Last(s, 0); ver != 1 || err != api.OK {
		t.Errorf("%d, %d", ver, err)
	}
}

// P8.1 to P8.4: all calls, of schemas that are right.
func TestRight(t *testing.T) {
	for _, s := range rightSchemas() {
		if i, err := schema.Check(s); i != 0 || err != api.OK {
			t.Errorf("%+v: %d, %d", s, i, err)
		}
		check(t, s)
	}
}

// P8.1: eight lines, and twelve changes, are as many as there may be.
func TestMost(t *testing.T) {
	s := most()
	if len(s.Lines) != 8 || len(s.Lines[7].Changes) != 12 {
		t.Fatalf("%+v", s)
	}
	if i, err := schema.Check(s); i != 0 || err != api.OK {
		t.Errorf("%d, %d", i, err)
	}
	more := most()
	more.Lines[7].Changes = append(more.Lines[7].Changes, index("a"))
	if i, err := schema.Check(more); i != 7 || err != api.ErrSchema {
		t.Errorf("%d, %d", i, err)
	}
	more.Lines = append(more.Lines, line(of("more")))
	if i, err := schema.Check(more); i != 8 || err != api.ErrSchema {
		t.Errorf("%d, %d", i, err)
	}
}

// P8.1: a change is made of the class behind those ahead of it, not of the first one.
func TestInTurn(t *testing.T) {
	c := of("c", field("a", numType))
	for _, l := range [][]api.Change{{add("b", numType, ""), drop("b")}, {rename("a", "b"), rename("b", "c"), index("c")}, {drop("a"), add("a", textType, ""), turn("a", numType, "len(a)")}} {
		if i, err := schema.Check(lines(line(c, l...))); i != 0 || err != api.OK {
			t.Errorf("%+v: %d, %d", l, i, err)
		}
		slices.Reverse(l)
		if i, err := schema.Check(lines(line(of("other")), line(c, l...))); i != 1 || err != api.ErrSchema {
			t.Errorf("%+v: %d, %d", l, i, err)
		}
	}
}

// parts are schemas that are unlike one with two lines in one part.
func parts() []api.Schema {
	make := func(spoil func(s api.Schema)) api.Schema {
		s := lines(line(sample.Pair(), drop("t"), add("x", numType, "n")), line(of("other")))
		spoil(s)
		return s
	}
	fields := func(s api.Schema) []api.Field { return s.Lines[0].First.Fields }
	last := func(s api.Schema) *api.Change { return &s.Lines[0].Changes[1] }
	return []api.Schema{
		make(func(s api.Schema) {}),
		make(func(s api.Schema) { s.Lines[0].First.Name = "pain" }),
		make(func(s api.Schema) { s.Lines[1].First.Name = "" }),
		make(func(s api.Schema) { fields(s)[0].Name = "m" }),
		make(func(s api.Schema) { fields(s)[1].Type.Kind = 3 }),
		make(func(s api.Schema) { fields(s)[1].Type.Of = 3 }),
		make(func(s api.Schema) { fields(s)[1].Indexed = true }),
		make(func(s api.Schema) { s.Lines[0].First.Fields = fields(s)[:1] }),
		make(func(s api.Schema) { s.Lines[1].First.Fields = fields(s) }),
		make(func(s api.Schema) { last(s).Kind = 0 }),
		make(func(s api.Schema) { last(s).Field = "x" }),
		make(func(s api.Schema) { last(s).Name = "y" }),
		make(func(s api.Schema) { last(s).More = "y" }),
		make(func(s api.Schema) { last(s).Type.Kind = 2 }),
		make(func(s api.Schema) { last(s).Type.Of = 2 }),
		make(func(s api.Schema) { last(s).Expr = "n " }),
		make(func(s api.Schema) { last(s).Other = "n" }),
		make(func(s api.Schema) { s.Lines[0].Changes = s.Lines[0].Changes[:1] }),
		make(func(s api.Schema) { s.Lines[0].Changes = nil }),
		make(func(s api.Schema) { s.Lines[1].Changes = s.Lines[0].Changes }),
		make(func(s api.Schema) { slices.Reverse(s.Lines[0].Changes) }),
		make(func(s api.Schema) { slices.Reverse(s.Lines) }),
		lines(make(func(api.Schema) {}).Lines[0]),
		lines(append(make(func(api.Schema) {}).Lines, api.Line{})...),
		{},
	}
}

// P8.1: Same tells each part that is another one, whatever the schemas are.
func TestSame(t *testing.T) {
	for i, a := range parts() {
		for k, b := range parts() {
			if got := schema.Same(a, b); got != (i == k) {
				t.Errorf("%+v and %+v: %t", a, b, got)
			}
		}
	}
	a := api.Schema{Lines: []api.Line{{First: api.Class{Fields: []api.Field{}}, Changes: []api.Change{}}}}
	if !schema.Same(a, lines(api.Line{})) || !schema.Same(lines(api.Line{}), a) || !schema.Same(api.Schema{}, lines()) {
		t.Error("an empty list is not none")
	}
	for _, w := range wrongSchemas() {
		if !schema.Same(w.schema, w.schema) || schema.Same(w.schema, api.Schema{}) {
			t.Errorf("%+v", w.schema)
		}
	}
}

// P8.2: Find tells the first of several lines of a name, in schemas that are not right, too.
func TestFind(t *testing.T) {
	s := lines(line(of("a")), line(of("b"), drop("x")), line(of("")), line(of("b")), line(of("A B")), line(of("")))
	s.Lines = append(s.Lines, slices.Repeat([]api.Line{line(of("far"))}, 9)...)
	for name, want := range map[string]int{"a": 0, "b": 1, "": 2, "A B": 4, "far": 6} {
		if i, ok := schema.Find(s, name); i != want || !ok {
			t.Errorf("%q: %d, %t", name, i, ok)
		}
	}
	for _, name := range []string{"c", "B", "b ", "aa", strings.Repeat("a", 1<<20)} {
		if i, ok := schema.Find(s, name); i != 0 || ok {
			t.Errorf("%q: %d, %t", name, i, ok)
		}
	}
}

// P8.4: each step tells values anew by those of the version that it changes.
func TestCarry(t *testing.T) {
	s := lines(line(of("other", field("a", textType))), long("c"))
	want := [][]api.Val{
		{numV(3)}, {numV(3), numV(6)}, {numV(3), numV(6), textV("x")}, {numV(3), numV(6), textV("x")}, {numV(3), numV(6), textV("x")}, {textV("9"), numV(6), textV("x")},
		{textV("9"), numV(6), listV(), listV()}, {textV("9"), listV(), listV()}, {textV("9"), listV(), listV()}, {textV("9"), listV(), listV(), {}}, {numV(1), numV(2), listV(), listV(), {}}, {numV(1), numV(2), listV(), listV(), {}}, {numV(1), numV(2), listV(), {}, {}},
	}
	for from := range want {
		for to := from; to < len(want); to++ {
			if l, err := schema.Carry(s, 1, from, to, want[from]); err != api.OK || !sameVals(l, want[to]) {
				t.Errorf("from %d to %d: %+v, %d, not %+v", from, to, l, err, want[to])
			}
		}
	}
}

// P8.4: values of references may be nothing, and values that fit no more than barely are carried.
func TestCarryEdges(t *testing.T) {
	s := lines(line(sample.Whole(), turn("n", numType, "n * n"), index("t"), rename("r", "x"), drop("ns")))
	most := slices.Repeat([]api.Val{numV(-api.MaxNum)}, api.MaxList)
	vals := []api.Val{numV(api.MaxNum), textV(strings.Repeat("x", api.MaxText)), {}, {}, listV(most...), listV(), listV(api.Val{}), listV(slices.Repeat([]api.Val{{}}, api.MaxList)...)}
	want := slices.Delete(slices.Clone(vals), 4, 5)
	if l, err := schema.Carry(s, 0, 0, 4, vals); err != api.OK || !sameVals(l, want) {
		t.Errorf("%+v, %d, not %+v", l, err, want)
	}
	s = lines(line(of("e"), add("a", numType, ""), drop("a")))
	if l, err := schema.Carry(s, 0, 0, 2, nil); err != api.OK || len(l) != 0 {
		t.Errorf("%+v, %d", l, err)
	}
}

// deep is a value with lists within lists.
func deep(n int) api.Val {
	v := numV(1)
	for range n {
		v = listV(v)
	}
	return v
}

// R1: each call ends, and none panics, whatever it is given.
func TestEnds(t *testing.T) {
	huge := strings.Repeat("a", 1<<20)
	wide := of(huge, slices.Repeat([]api.Field{field("a", numType)}, 1<<20)...)
	manyChanges := line(of("c", field("a", numType)), slices.Repeat([]api.Change{index("a")}, 1<<20)...)
	far := lines(slices.Repeat([]api.Line{line(of("a"))}, 1<<20)...)
	for _, s := range []api.Schema{far, lines(line(wide)), lines(manyChanges), lines(line(of("c"), add(huge, numType, huge))), lines(line(of("c")), api.Line{})} {
		if _, err := schema.Check(s); err != api.ErrSchema || !schema.Same(s, s) {
			t.Errorf("%d lines: %d", len(s.Lines), err)
		}
		for _, n := range numbers(1) {
			schema.Last(s, n)
			schema.At(s, n, n)
			schema.Turn(s, n, index("a"))
			schema.Carry(s, n, 0, n, []api.Val{numV(3)})
		}
		schema.Find(s, huge)
		schema.Add(s, wide)
	}
	s := example()
	for _, n := range numbers(1) {
		for _, m := range numbers(1) {
			schema.Carry(s, 0, n, m, []api.Val{numV(3)})
			schema.Carry(s, n, m, n, []api.Val{numV(3)})
		}
	}
	schema.Add(s, wide)
	schema.Turn(s, 0, add(huge, api.Type{Kind: math.MinInt, Of: math.MaxInt}, huge))
	schema.Carry(s, 0, 0, 1, slices.Repeat([]api.Val{numV(3)}, 1<<20))
	if l, err := schema.Carry(s, 0, 0, 1, []api.Val{deep(60000)}); len(l) != 0 || err != api.ErrFit {
		t.Errorf("%+v, %d", l, err)
	}
}

// P8.3: what is added or turned stands behind all else, which is as it was.
func TestGrows(t *testing.T) {
	s := lines(long("c"), line(sample.Pair()))
	d, err := schema.Add(s, sample.Node())
	if err != api.OK || !same(d, lines(long("c"), line(sample.Pair()), line(sample.Node()))) {
		t.Errorf("%+v, %d", d, err)
	}
	d, err = schema.Turn(d, 1, drop("t"))
	if err != api.OK || !same(d, lines(long("c"), line(sample.Pair(), drop("t")), line(sample.Node()))) {
		t.Errorf("%+v, %d", d, err)
	}
	d, err = schema.Turn(d, 1, add("t", textType, "text(n)"))
	if err != api.OK || !same(d, lines(long("c"), line(sample.Pair(), drop("t"), add("t", textType, "text(n)")), line(sample.Node()))) {
		t.Errorf("%+v, %d", d, err)
	}
	if _, err := change.Apply(sample.Pair(), add("t", textType, "text(n)")); err != api.ErrChange {
		t.Errorf("%d", err)
	}
	if c, err := schema.At(d, 1, 2); err != api.OK || !class.Same(c, of("pair", field("n", numType), field("t", textType))) {
		t.Errorf("%+v, %d", c, err)
	}
}

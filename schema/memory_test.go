package schema_test

import (
	"slices"
	"strings"
	"testing"
	"unsafe"

	"moraine/api"
	"moraine/class"
	"moraine/sample"
	"moraine/schema"
)

// within says whether a shares memory with b.
func within(a, b string) bool {
	first, at := uintptr(unsafe.Pointer(unsafe.StringData(b))), uintptr(unsafe.Pointer(unsafe.StringData(a)))
	return a != "" && at >= first && at < first+uintptr(len(b))
}

// spoilClass writes into a class's fields, spare room, too.
func spoilClass(c api.Class) {
	clear(c.Fields[:cap(c.Fields)])
}

// spoilLine writes into all lists of a line, spare room, too.
func spoilLine(l api.Line) {
	spoilClass(l.First)
	clear(l.Changes[:cap(l.Changes)])
}

// spoil writes into all lists of a schema, spare room, too.
func spoil(s api.Schema) {
	for _, l := range s.Lines {
		spoilLine(l)
	}
	clear(s.Lines[:cap(s.Lines)])
}

// classTexts are a class's names.
func classTexts(c api.Class) []string {
	l := []string{c.Name}
	for _, f := range c.Fields {
		l = append(l, f.Name)
	}
	return l
}

// texts are all of a schema.
func texts(s api.Schema) []string {
	var l []string
	for _, m := range s.Lines {
		l = append(l, classTexts(m.First)...)
		for _, ch := range m.Changes {
			l = append(l, ch.Field, ch.Name, ch.More, ch.Expr, ch.Other)
		}
	}
	return l
}

// shared fails, if a text of some answer is one of what was handed in.
func shared(t *testing.T, answer, given []string) {
	t.Helper()
	for _, a := range answer {
		if slices.ContainsFunc(given, func(s string) bool { return within(a, s) }) {
			t.Errorf("%q is what was handed in", a)
		}
	}
}

// roomy is a schema each list of which has spare room, and what fails if that is written into, or the schema.
func roomy() (api.Schema, func(t *testing.T)) {
	last := line(sample.Whole(), drop("w"), rename("t", "x"))
	l := make([]api.Line, 0, 8)
	for _, m := range []api.Line{long("c"), last} {
		m.First.Fields = append(make([]api.Field, 0, 20), m.First.Fields...)
		m.Changes = append(make([]api.Change, 0, 20), m.Changes...)
		l = append(l, m)
	}
	s := lines(l...)
	return s, func(t *testing.T) {
		t.Helper()
		if !same(s, lines(long("c"), last)) {
			t.Errorf("%+v", s)
		}
		for _, m := range l[2:cap(l)] {
			if m.First.Name != "" || m.First.Fields != nil || m.Changes != nil {
				t.Errorf("%+v stands in spare room", m)
			}
		}
		for _, m := range l {
			if slices.ContainsFunc(m.First.Fields[len(m.First.Fields):20], func(f api.Field) bool { return f != api.Field{} }) || slices.ContainsFunc(m.Changes[len(m.Changes):20], func(ch api.Change) bool { return ch != api.Change{} }) {
				t.Errorf("%+v: spare room", m)
			}
		}
	}
}

// R3: what is handed in is not written into, nor its spare room, neither by the calls nor by what is done with their answers.
func TestNothingIsWrittenInto(t *testing.T) {
	s, fails := roomy()
	c := of("new", append(make([]api.Field, 0, 8), field("a", numType))...)
	schema.Check(s)
	schema.Same(s, s)
	schema.Find(s, "whole")
	for n := -1; n < 3; n++ {
		schema.Last(s, n)
		for ver := -1; ver < 13; ver++ {
			d, _ := schema.At(s, n, ver)
			spoilClass(d)
			l, _ := schema.Carry(s, n, 0, ver, sample.Fittings(sample.Whole(), 1))
			fill(l)
		}
		d, _ := schema.Turn(s, n, drop("r"))
		spoil(d)
	}
	for _, c := range []api.Class{c, {}, of("c")} {
		d, _ := schema.Add(s, c)
		spoil(d)
	}
	fails(t)
	if room := c.Fields[:8]; room[0] != field("a", numType) || slices.ContainsFunc(room[1:], func(f api.Field) bool { return f != api.Field{} }) {
		t.Errorf("%+v", room)
	}
}

// R3: classes that At answers are new memory, names, too.
func TestClassesAreNew(t *testing.T) {
	s := lines(long("c"), line(sample.Whole(), drop("w"), rename("t", "x")))
	for n, l := range s.Lines {
		for ver := range len(l.Changes) + 1 {
			c, _ := schema.At(s, n, ver)
			other, _ := schema.At(s, n, ver)
			want, _ := plainAt(s, n, ver)
			shared(t, classTexts(c), texts(s))
			shared(t, classTexts(c), classTexts(other))
			spoilClass(c)
			if !class.Same(other, want) {
				t.Errorf("%+v, not %+v", other, want)
			}
		}
	}
	if !same(s, lines(long("c"), line(sample.Whole(), drop("w"), rename("t", "x")))) {
		t.Errorf("%+v", s)
	}
}

// R3: schemas that Add and Turn answer are new memory, texts, too, and no two of their lists share any.
func TestSchemasAreNew(t *testing.T) {
	some := func() api.Schema { return lines(long("c"), line(sample.Whole(), drop("w"), rename("n", "x"))) }
	s, c, ch := some(), sample.Pair(), split("ts", "one", "more", textType, "left(t, 2)", "from(t, 3)")
	given := append(texts(s), append(classTexts(c), ch.Field, ch.Name, ch.More, ch.Expr, ch.Other)...)
	added, _ := plainAdd(some(), sample.Pair())
	dropped, _ := plainTurn(some(), 1, drop("r"))
	halved, _ := plainTurn(some(), 1, split("ts", "one", "more", textType, "left(t, 2)", "from(t, 3)"))
	for _, answer := range []struct {
		want api.Schema
		tell func() (api.Schema, api.Errno)
	}{
		{added, func() (api.Schema, api.Errno) { return schema.Add(s, c) }},
		{dropped, func() (api.Schema, api.Errno) { return schema.Turn(s, 1, drop("r")) }},
		{halved, func() (api.Schema, api.Errno) { return schema.Turn(s, 1, ch) }},
	} {
		d, _ := answer.tell()
		shared(t, texts(d), given)
		for i := range answer.want.Lines {
			apart(t, answer.want, i, answer.tell)
		}
		spoil(d)
		if d, err := answer.tell(); !same(d, answer.want) || err != api.OK {
			t.Errorf("%+v, %d, not %+v", d, err, answer.want)
		}
	}
}

// apart fails, if a line of an answer shares memory with another line, or its fields with its changes.
func apart(t *testing.T, want api.Schema, i int, tell func() (api.Schema, api.Errno)) {
	t.Helper()
	d, _ := tell()
	spoilLine(d.Lines[i])
	for k, l := range want.Lines {
		if k != i && !same(lines(d.Lines[k]), lines(l)) {
			t.Errorf("lines %d and %d share memory: %+v", i, k, d)
		}
	}
	d, _ = tell()
	spoilClass(d.Lines[i].First)
	if !slices.Equal(d.Lines[i].Changes, want.Lines[i].Changes) {
		t.Errorf("%+v", d.Lines[i])
	}
}

// R3: values that Carry answers are new memory, texts, too, and no two lists of them share any, when nothing is changed either.
func TestValuesAreNew(t *testing.T) {
	s := lines(line(sample.Whole(), add("x", listOf(api.Num), "ns"), rename("t", "y")))
	s.Lines[0].First.Fields = slices.Delete(s.Lines[0].First.Fields, 2, 3)
	first, _ := schema.At(s, 0, 0)
	vals := sample.Fittings(first, 1)
	for i := range vals {
		vals[i].S = strings.Clone(vals[i].S)
		vals[i].L = append(make([]api.Val, 0, 9), vals[i].L...)
	}
	for to := range 3 {
		want, _ := plainCarry(s, 0, 0, to, sample.Fittings(first, 1))
		for i := range want {
			l, _ := schema.Carry(s, 0, 0, to, vals)
			fill(l[i].L)
			for k := range want {
				if k != i && !sameVals(l[k:k+1], want[k:k+1]) {
					t.Errorf("to %d: values %d and %d share memory", to, i, k)
				}
				for _, v := range append(l[k].L, l[k]) {
					shared(t, []string{v.S}, []string{vals[1].S, vals[4].L[0].S})
				}
			}
			fill(l)
			if !sameVals(vals, sample.Fittings(first, 1)) {
				t.Fatalf("to %d: %+v", to, vals)
			}
		}
	}
	for _, v := range vals {
		for _, item := range v.L[len(v.L):9] {
			if item.Kind != 0 || item.N != 0 {
				t.Errorf("%+v stands in spare room", item)
			}
		}
	}
}

package fresh_test

import (
	"slices"
	"strings"
	"testing"
	"unsafe"

	"moraine/api"
	"moraine/fresh"
	"moraine/val"
)

// values are some, right and not, with lists within lists and spare room.
func values() []api.Val {
	text := api.Val{Kind: api.Text, S: strings.Repeat("ab", 9)}
	list := api.Val{Kind: api.List, L: append(make([]api.Val, 0, 9), text, api.Val{Kind: api.Ref, N: 7}, api.Val{})}
	deep := api.Val{Kind: -3, N: 5, S: "é\xff", L: []api.Val{list, {L: make([]api.Val, 0, 4)}, list}}
	return []api.Val{{}, {Kind: api.Num, N: -5}, {Kind: api.Weak, N: 3}, {L: []api.Val{}}, text, list, deep}
}

// R3: a copy is the same, and stays so, whatever is written into the other one, its spare room, too.
func TestVal(t *testing.T) {
	for i, v := range values() {
		f := fresh.Val(v)
		if !val.Same(f, v) {
			t.Errorf("%d: %+v is not %+v", i, f, v)
		}
		spoil(f)
		if !val.Same(v, values()[i]) {
			t.Errorf("%d: %+v shares memory with its copy", i, v)
		}
	}
}

// spoil writes into all lists of a value, spare room, too.
func spoil(v api.Val) {
	for _, item := range v.L {
		spoil(item)
	}
	l := v.L[:cap(v.L)]
	for i := range l {
		l[i] = api.Val{Kind: 77}
	}
}

// R3: texts are copied, too, in lists as well.
func TestTexts(t *testing.T) {
	text := values()[4]
	for _, f := range []api.Val{fresh.Val(text), fresh.Val(api.Val{L: []api.Val{text}}).L[0]} {
		if f.S != text.S || unsafe.StringData(f.S) == unsafe.StringData(text.S) {
			t.Errorf("%q is what was handed in", f.S)
		}
	}
}

// R3: what was handed in is not written into, nor its spare room.
func TestSpareRoom(t *testing.T) {
	list := values()[5]
	fresh.Val(list)
	for _, v := range list.L[3:cap(list.L)] {
		if !val.Same(v, api.Val{}) {
			t.Errorf("%+v stands in spare room", v)
		}
	}
}

// schemas are some, right and not, with spare room in all lists.
func schemas() []api.Schema {
	c := api.Class{Name: strings.Repeat("c", 9), Fields: make([]api.Field, 0, 9)}
	c.Fields = append(c.Fields, api.Field{Name: "n", Type: api.Type{Kind: api.List, Of: api.Ref}, Indexed: true}, api.Field{})
	changes := append(make([]api.Change, 0, 9), api.Change{Kind: 7, Field: "a", Name: "bc", More: "def", Type: api.Type{Kind: -1, Of: 3}, Expr: "g", Other: "hi"}, api.Change{})
	return []api.Schema{{}, {Lines: []api.Line{}}, {Lines: append(make([]api.Line, 0, 9), api.Line{First: c, Changes: changes}, api.Line{}, api.Line{Changes: changes}, api.Line{First: c})}}
}

// sameSchema says whether two schemas are the same.
func sameSchema(a, b api.Schema) bool {
	return slices.EqualFunc(a.Lines, b.Lines, func(l, m api.Line) bool {
		return l.First.Name == m.First.Name && slices.Equal(l.First.Fields, m.First.Fields) && slices.Equal(l.Changes, m.Changes)
	})
}

// R3: a schema's copy is the same, and stays so, whatever is written into the other one, its spare room, too.
func TestSchema(t *testing.T) {
	for i, s := range schemas() {
		f := fresh.Schema(s)
		if !sameSchema(f, s) {
			t.Errorf("%+v is not %+v", f, s)
		}
		for _, l := range f.Lines {
			clear(l.First.Fields[:cap(l.First.Fields)])
			clear(l.Changes[:cap(l.Changes)])
		}
		clear(f.Lines[:cap(f.Lines)])
		if !sameSchema(s, schemas()[i]) {
			t.Errorf("%+v shares memory with its copy", s)
		}
	}
}

// R3: of a schema's copy all texts are copied, too.
func TestSchemaTexts(t *testing.T) {
	texts := func(c api.Class, ch api.Change) []string {
		return []string{c.Name, c.Fields[0].Name, ch.Field, ch.Name, ch.More, ch.Expr, ch.Other}
	}
	l := schemas()[2].Lines[0]
	given := texts(l.First, l.Changes[0])
	m := fresh.Schema(api.Schema{Lines: []api.Line{l}}).Lines[0]
	for _, told := range [][]string{texts(m.First, m.Changes[0]), texts(fresh.Class(l.First), fresh.Change(l.Changes[0]))} {
		for i, s := range told {
			if s != given[i] || unsafe.StringData(s) == unsafe.StringData(given[i]) {
				t.Errorf("%q is what was handed in", s)
			}
		}
	}
}

// R3: values' copies are the same, and share nothing with them; none are none.
func TestVals(t *testing.T) {
	l := fresh.Vals(values())
	if !val.Same(api.Val{L: l}, api.Val{L: values()}) || fresh.Vals(nil) != nil || len(fresh.Vals([]api.Val{})) != 0 {
		t.Errorf("%+v", l)
	}
	given := values()
	l = fresh.Vals(given)
	spoil(api.Val{L: l})
	if !val.Same(api.Val{L: given}, api.Val{L: values()}) {
		t.Errorf("%+v shares memory with its copies", given)
	}
}

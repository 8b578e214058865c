package eval_test

import (
	"slices"
	"strings"
	"testing"
	"unsafe"

	"moraine/api"
	"moraine/eval"
	"moraine/val"
)

// within says whether a shares memory with b.
func within(a, b string) bool {
	first, at := uintptr(unsafe.Pointer(unsafe.StringData(b))), uintptr(unsafe.Pointer(unsafe.StringData(a)))
	return a != "" && at >= first && at < first+uintptr(len(b))
}

// fill writes into all of a list, its spare room, too.
func fill(l []api.Val) {
	l = l[:cap(l)]
	for i := range l {
		l[i] = numV(-77)
	}
}

// untouched says whether nothing was written into spare room.
func untouched(room []api.Val) bool {
	return !slices.ContainsFunc(room, func(v api.Val) bool { return !val.Same(v, api.Val{}) })
}

// R3: a list that is answered is new memory, and those within it that are none, spare room, too.
func TestListsAreNew(t *testing.T) {
	c, vals, room := all(), allVals(), make([]api.Val, 8)
	for i, v := range vals {
		vals[i].L = append(make([]api.Val, 0, 9), v.L...)
		for k := range v.L {
			vals[i].L[k].L = room[:0:4]
		}
	}
	for i, f := range c.Fields {
		v, _ := eval.Eval(field(f.Name), c, vals)
		other, _ := eval.Eval(field(f.Name), c, vals)
		for _, item := range v.L {
			fill(item.L)
		}
		if fill(v.L); !val.Same(other, allVals()[i]) || !val.Same(vals[i], allVals()[i]) {
			t.Errorf("%s: %v, and another answer %v", f.Name, vals[i], other)
		}
		if spare := vals[i].L[len(vals[i].L):9]; !untouched(spare) || !untouched(room) {
			t.Errorf("%s: %v, %v", f.Name, spare, room)
		}
	}
}

// R3: texts that are fields' are new memory, in lists, too.
func TestFieldsTextsAreNew(t *testing.T) {
	c, vals := all(), allVals()
	for i, f := range c.Fields {
		v, _ := eval.Eval(field(f.Name), c, vals)
		parts, given := append(v.L, v), append(slices.Clone(vals[i].L), vals[i])
		for k := range given {
			if within(parts[k].S, given[k].S) {
				t.Errorf("%s: %q is what was handed in", f.Name, parts[k].S)
			}
		}
	}
}

// R3: texts that are parts of others are new memory.
func TestTextsAreNew(t *testing.T) {
	s := strings.Repeat("ab", 10)
	literal := text(strings.Clone("xyz"))
	for _, e := range []api.Expr{literal, field("t"), call("left", field("t"), num(5)), call("right", field("t"), num(5)), call("from", field("t"), num(1)), op("&", field("t"), text("")), op("&", text(""), field("t")), call("if", num(1), field("t"), text("")), call("left", literal, num(2)), call("from", literal, num(1))} {
		v, err := eval.Eval(e, of("t", api.Text), []api.Val{textV(s)})
		if err != api.OK || v.S == "" || within(v.S, s) || within(v.S, literal.S) {
			t.Errorf("%s: %v, %d", show(e), v, err)
		}
	}
}

// R3: what is handed in is not written into, nor its spare room.
func TestNothingIsWrittenInto(t *testing.T) {
	kids := []api.Expr{field("n"), op("+", field("n"), num(2)), num(9), num(8)}
	e := api.Expr{Kind: api.EOp, S: "-", Kids: kids[:2:4]}
	c := of("n", api.Num, "t", api.Text, "m", api.Num)
	fields := slices.Clone(c.Fields)
	c.Fields = fields[:2:3]
	vals := []api.Val{numV(1), textV("a"), numV(99)}
	eval.Type(e, c)
	if v, err := eval.Eval(e, c, vals[:2:3]); !val.Same(v, numV(-2)) || err != api.OK {
		t.Errorf("%v, %d", v, err)
	}
	if kids[2].N != 9 || kids[3].N != 8 || show(e) != "n - (n + 2)" {
		t.Errorf("%+v", kids)
	}
	if !slices.Equal(fields, of("n", api.Num, "t", api.Text, "m", api.Num).Fields) {
		t.Errorf("%+v", fields)
	}
	if !val.Same(listV(vals...), listV(numV(1), textV("a"), numV(99))) {
		t.Errorf("%+v", vals)
	}
}

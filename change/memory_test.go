package change_test

import (
	"slices"
	"strings"
	"testing"
	"unsafe"

	"moraine/api"
	"moraine/change"
	"moraine/class"
	"moraine/val"
)

// within says whether a shares memory with b.
func within(a, b string) bool {
	first, at := uintptr(unsafe.Pointer(unsafe.StringData(b))), uintptr(unsafe.Pointer(unsafe.StringData(a)))
	return a != "" && at >= first && at < first+uintptr(len(b))
}

// each are changes of each kind that are right of the first seven fields of whole.
func each() []api.Change {
	return []api.Change{add("x", listOf(api.Num), "ns"), add("x", listOf(api.Num), ""), drop("n"), drop("rs"), rename("ts", "x"), turn("n", listOf(api.Text), "ts"), turn("ts", textType, "t"), split("rs", "x", "y", listOf(api.Ref), "rs", "rs"), split("t", "x", "y", listOf(api.Ref), "", "rs"), index("n"), index("r")}
}

// R3: what is handed in is not written into, nor its spare room.
func TestNothingIsWrittenInto(t *testing.T) {
	fields := append(whole().Fields[:7], indexed("x", numType), field("y", numType))
	all := append(fittings(whole(), 1)[:7], numV(8), numV(9))
	c := api.Class{Name: "c", Fields: fields[:7:9]}
	for i := range all {
		all[i].L = append(make([]api.Val, 0, 9), all[i].L...)
	}
	for _, ch := range append(each(), drop("nobody"), api.Change{}) {
		change.Right(c, ch)
		change.Apply(c, ch)
		change.Vals(c, ch, all[:7:9])
	}
	if !slices.Equal(fields, append(whole().Fields[:7], indexed("x", numType), field("y", numType))) {
		t.Errorf("%+v", fields)
	}
	if !val.Same(listV(all...), listV(append(fittings(whole(), 1)[:7], numV(8), numV(9))...)) {
		t.Errorf("%+v", all)
	}
	for _, v := range all {
		for _, item := range v.L[len(v.L):9] {
			if !val.Same(item, api.Val{}) {
				t.Errorf("%+v stands in spare room", item)
			}
		}
	}
}

// R3: classes that are answered are new memory, spare room and names, too.
func TestClassesAreNew(t *testing.T) {
	for _, ch := range each() {
		c := of("c", whole().Fields[:7]...)
		d, _ := change.Apply(c, ch)
		other, _ := change.Apply(c, ch)
		want, _ := plainApply(c, ch)
		given := []string{c.Name, ch.Name, ch.More}
		for _, f := range c.Fields {
			given = append(given, f.Name)
		}
		for _, s := range given {
			if within(d.Name, s) || slices.ContainsFunc(d.Fields, func(f api.Field) bool { return within(f.Name, s) }) {
				t.Errorf("%+v: %q is what was handed in", ch, s)
			}
		}
		clear(d.Fields[:cap(d.Fields)])
		if !class.Same(c, of("c", whole().Fields[:7]...)) || !class.Same(other, want) {
			t.Errorf("%+v: %+v, and another answer %+v", ch, c, other)
		}
	}
}

// R3: values that are answered are new memory, and no two lists of them share any.
func TestValuesAreNew(t *testing.T) {
	c := of("c", whole().Fields[:7]...)
	for _, ch := range each() {
		vals := fittings(c, 1)
		given := vals[1].S
		want, _ := plainVals(c, ch, fittings(c, 1))
		for i := range want {
			l, _ := change.Vals(c, ch, vals)
			fill(l[i].L)
			for k := range want {
				if k != i && !val.Same(l[k], want[k]) {
					t.Errorf("%+v: values %d and %d share memory", ch, i, k)
				}
				if within(l[k].S, given) {
					t.Errorf("%+v: %q is what was handed in", ch, given)
				}
			}
			other, _ := change.Vals(c, ch, vals)
			if fill(l); !val.Same(listV(vals...), listV(fittings(c, 1)...)) || !val.Same(listV(other...), listV(want...)) {
				t.Errorf("%+v: %+v, and another answer %+v", ch, vals, other)
			}
		}
	}
}

// R3: spare room of a kept value's list is not handed on, nor that of what stands in it.
func TestSpareRoom(t *testing.T) {
	c := of("c", field("ns", listOf(api.Num)), field("n", numType))
	room, inner, empty := make([]api.Val, 4), make([]api.Val, 4), make([]api.Val, 4)
	room[0] = api.Val{Kind: api.Num, N: 1, L: inner[:0]}
	for _, ch := range []api.Change{drop("n"), rename("n", "x"), index("n"), turn("n", listOf(api.Num), "ns"), add("x", listOf(api.Num), "ns")} {
		l, err := change.Vals(c, ch, []api.Val{listV(room[:1]...), {Kind: api.Num, N: 2, L: empty[:0]}})
		if err != api.OK {
			t.Fatalf("%+v: %d", ch, err)
		}
		for _, v := range l {
			for _, item := range v.L {
				fill(item.L)
			}
			fill(v.L)
		}
	}
	for _, v := range slices.Concat(room[1:], inner, empty) {
		if !val.Same(v, api.Val{}) {
			t.Errorf("%+v stands in spare room", v)
		}
	}
}

// R3: names and expressions that are decoded are new memory.
func TestDecodeMemory(t *testing.T) {
	s, _ := change.Encode(split("name", "one", "more", textType, "left(name, 2)", "from(name, 3)"))
	s = strings.Clone(s)
	ch, _, _ := change.Decode(s, 0)
	for _, part := range []string{ch.Field, ch.Name, ch.More, ch.Expr, ch.Other} {
		if part == "" || within(part, s) {
			t.Errorf("%q shares memory with what it is decoded from", part)
		}
	}
}

package fresh_test

import (
	"strings"
	"testing"
	"unsafe"

	"moraine/api"
	"moraine/fresh"
	"moraine/val"
)

// values are some, right and not, with lists within lists and spare room.
func values() []api.Val {
	text := api.Val{Kind: api.Text, S: strings.Repeat("ab", 9)}
	list := api.Val{Kind: api.List, L: append(make([]api.Val, 0, 9), text, api.Val{Kind: api.Ref, N: 7}, api.Val{})}
	deep := api.Val{Kind: -3, N: 5, S: "é\xff", L: []api.Val{list, {L: make([]api.Val, 0, 4)}, list}}
	return []api.Val{{}, {Kind: api.Num, N: -5}, {Kind: api.Weak, N: 3}, {L: []api.Val{}}, text, list, deep}
}

// R3: a copy is the same, and stays so, whatever is written into the other one, its spare room, too.
func TestVal(t *testing.T) {
	for i, v := range values() {
		f := fresh.Val(v)
		if !val.Same(f, v) {
			t.Errorf("%d: %+v is not %+v", i, f, v)
		}
		spoil(f)
		if !val.Same(v, values()[i]) {
			t.Errorf("%d: %+v shares memory with its copy", i, v)
		}
	}
}

// spoil writes into all lists of a value, spare room, too.
func spoil(v api.Val) {
	for _, item := range v.L {
		spoil(item)
	}
	l := v.L[:cap(v.L)]
	for i := range l {
		l[i] = api.Val{Kind: 77}
	}
}

// R3: texts are copied, too, in lists as well.
func TestTexts(t *testing.T) {
	text := values()[4]
	for _, f := range []api.Val{fresh.Val(text), fresh.Val(api.Val{L: []api.Val{text}}).L[0]} {
		if f.S != text.S || unsafe.StringData(f.S) == unsafe.StringData(text.S) {
			t.Errorf("%q is what was handed in", f.S)
		}
	}
}

// R3: what was handed in is not written into, nor its spare room.
func TestSpareRoom(t *testing.T) {
	list := values()[5]
	fresh.Val(list)
	for _, v := range list.L[3:cap(list.L)] {
		if !val.Same(v, api.Val{}) {
			t.Errorf("%+v stands in spare room", v)
		}
	}
}

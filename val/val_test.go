package val_test

import (
	"cmp"
	"math"
	"slices"
	"strings"
	"testing"

	"moraine/api"
	"moraine/val"
)

func num(n int) api.Val         { return api.Val{Kind: api.Num, N: n} }
func text(s string) api.Val     { return api.Val{Kind: api.Text, S: s} }
func ref(n int) api.Val         { return api.Val{Kind: api.Ref, N: n} }
func weak(n int) api.Val        { return api.Val{Kind: api.Weak, N: n} }
func list(l ...api.Val) api.Val { return api.Val{Kind: api.List, L: l} }
func ones(n int) api.Val        { return list(slices.Repeat([]api.Val{num(1)}, n)...) }
func nest(v api.Val, n int) api.Val {
	for range n {
		v = list(v)
	}
	return v
}

var long = strings.Repeat("x", api.MaxText)

// rightItems are right values that are no lists: plain ones, and those at each edge that the chapter names.
func rightItems() []api.Val {
	l := []api.Val{{}, {L: []api.Val{}}}
	for _, n := range []int{0, 1, -1, 5, 9, 10, 12, 63, 64, -64, -65, 100, 101, 1000, 1001, 10000, -10000, api.MaxID, api.MaxID + 1, api.MaxNum - 1, api.MaxNum, 1 - api.MaxNum, -api.MaxNum} {
		l = append(l, num(n))
	}
	for _, s := range []string{"", " ", "a", "ab", "b", "-", "0", "~", "é", "~é\u0080\u2028\ufffd\U0010ffff", `"`, `\`, `\"`, `a"b`, `a\\"`, `\n`, "[", "] ", "\ufeff", "\ud7ff\ue000",
		long, long[1:], long[2:] + "é", strings.Repeat("é", 30), strings.Repeat("\ufffd", 20), strings.Repeat("\U00010000", 15), strings.Repeat(`"`, 60), strings.Repeat(`\`, 60)} {
		l = append(l, text(s))
	}
	for _, n := range []int{1, 2, 7, 10, 20, 21, 99, 1000, 10000, api.MaxID - 1, api.MaxID, -1, -2, -10, -19, -api.MaxOps} {
		l = append(l, ref(n), weak(n))
	}
	return l
}

// rightVals are right values of all kinds, no two the same but the first two, which are Nil.
func rightVals() []api.Val {
	items := rightItems()
	l := append(items, list(), list(api.Val{}), list(num(1), text(`a"b`), ref(7), api.Val{}), ones(api.MaxList-1), ones(api.MaxList))
	for _, v := range items[1:] {
		l = append(l, list(v, v), list(text("first"), v))
	}
	return append(l, list(slices.Repeat([]api.Val{text(long)}, api.MaxList)...))
}

// wrongItems are values that are not right, and no lists.
func wrongItems() []api.Val {
	var l []api.Val
	for _, kind := range []int{-1, 6, 7, 60, math.MinInt, math.MaxInt} {
		l = append(l, api.Val{Kind: kind}, api.Val{Kind: kind, N: 1}, api.Val{Kind: kind, S: "a"}, api.Val{Kind: kind, L: []api.Val{{}}})
	}
	l = append(l, api.Val{N: 1}, api.Val{N: -1}, api.Val{S: "a"}, api.Val{L: []api.Val{{}}})
	for _, n := range []int{api.MaxNum + 1, -api.MaxNum - 1, math.MinInt, math.MaxInt} {
		l = append(l, num(n))
	}
	for _, s := range []string{"\x00", "\x1f", "\x7f", "a\nb", "a\tb", "\r", "\x80", "\xff", "\xc3", "\xa9", "\xc3\xa9\xa9", "\xc0\x80", "\xc1\xbf", "\xe0\x80\x80", "\xed\xa0\x80", "\xed\xbf\xbf", "\xf4\x90\x80\x80", "\xf0\x80\x80\x80", "é\xef\xbf", "\xf8\x88\x80\x80\x80",
		long + "y", long[1:] + "é", strings.Repeat("é", 31), strings.Repeat("x", 10000), strings.Repeat("x", 10001)} {
		l = append(l, text(s))
	}
	for _, n := range []int{0, api.MaxID + 1, -api.MaxOps - 1, math.MinInt, math.MaxInt} {
		l = append(l, ref(n), weak(n))
	}
	for _, v := range []api.Val{num(1), ref(1), weak(-1)} {
		l = append(l, api.Val{Kind: v.Kind, N: v.N, S: "s"}, api.Val{Kind: v.Kind, N: v.N, L: []api.Val{{}}})
	}
	for _, n := range []int{1, -1} {
		l = append(l, api.Val{Kind: api.Text, N: n}, api.Val{Kind: api.Text, N: n, S: "a"})
	}
	l = append(l, api.Val{Kind: api.Text, L: []api.Val{{}}}, api.Val{Kind: api.Text, S: "a", L: []api.Val{num(1)}})
	return l
}

// wrongVals are values of all kinds that are not right.
func wrongVals() []api.Val {
	items := wrongItems()
	l := append(items, api.Val{Kind: api.List, N: 1}, api.Val{Kind: api.List, S: "a"}, api.Val{Kind: api.List, N: -1, L: []api.Val{num(1)}}, ones(api.MaxList+1), ones(1000))
	l = append(l, list(list()), list(num(1), list(num(2))), list(list(), num(1)), nest(num(1), 3))
	for _, v := range items {
		l = append(l, list(v), list(num(1), v, num(2)))
	}
	return l
}

// P3.1: which values are right.
func TestRight(t *testing.T) {
	for _, v := range rightVals() {
		if !val.Right(v) {
			t.Errorf("%+v is not right", v)
		}
	}
	for _, v := range wrongVals() {
		if val.Right(v) {
			t.Errorf("%+v is right", v)
		}
	}
}

// P3.1: each byte, and each rune that has bytes, is one of a text, or none, as DOC.md's words say.
func TestRightText(t *testing.T) {
	for i := range 256 {
		s := string([]byte{byte(i)})
		want := i >= 0x20 && i < 0x7f
		for _, around := range []string{s, "a" + s, s + "é", "é" + s + "z"} {
			if val.Right(text(around)) != want {
				t.Errorf("%q: %t", around, !want)
			}
		}
	}
	for c := rune(0x80); c <= 0x10ffff; c++ {
		if surrogate := c >= 0xd800 && c < 0xe000; !surrogate && !val.Right(text(string(c))) {
			t.Fatalf("%x", c)
		}
	}
}

// inOrder are values, right or not, each of which stands ahead of the next one.
func inOrder() []api.Val {
	return []api.Val{
		{Kind: math.MinInt, N: 5}, {Kind: -1, N: math.MaxInt},
		{N: -1, S: "z"}, {}, {L: []api.Val{{}}}, {S: "a"}, {N: 1},
		num(math.MinInt), num(-api.MaxNum), num(-10), num(-9), num(-1), num(0), {Kind: api.Num, S: "a"}, num(1), {Kind: api.Num, N: 1, L: []api.Val{{}}}, num(9), num(10), num(math.MaxInt),
		{Kind: api.Text, N: -1, S: "z"}, text(""), text("\x00"), text(" "), text("A"), text("a"), {Kind: api.Text, S: "a", L: []api.Val{{}}}, text("a\x00"), text("aa"), text("ab"), text("b"), text("z"), text("\x80"), text("é"), text("\ufffd"), text("\U0001f600"), text("\xff"), {Kind: api.Text, N: 1},
		ref(-20), ref(-1), ref(0), ref(1), ref(2), ref(api.MaxID + 1),
		weak(-20), weak(-1), weak(1), weak(10), weak(11),
		{Kind: api.List, N: -1, L: []api.Val{weak(1)}}, list(), list(api.Val{}), list(api.Val{}, api.Val{}), list(api.Val{}, num(-5)), list(num(1)), list(num(1), api.Val{}), list(num(1), num(1)), list(num(1), num(2)), list(num(1), text("a")), list(num(2)), list(num(2), num(1)), list(text("a"), text("b")), list(text("aa")), list(ref(1)), list(weak(1)), list(list()), list(list(num(1)), num(5)), list(list(num(1), num(1))), list(list(list())),
		{Kind: api.List, S: "a"}, {Kind: api.List, N: 1},
		{Kind: 6}, {Kind: math.MaxInt},
	}
}

// P3.1, P3.7: values stand in one order, and 0 is told just of what is the same.
func TestCompareOrder(t *testing.T) {
	l := inOrder()
	for i, a := range l {
		for j, b := range l {
			if c := val.Compare(a, b); c != cmp.Compare(i, j) {
				t.Errorf("%+v and %+v: %d", a, b, c)
			}
			if s := val.Same(a, b); s != (i == j) {
				t.Errorf("%+v and %+v: %t", a, b, s)
			}
		}
	}
}

// P3.1: what was made anew of the same parts is the same; nil and empty lists are one (R3).
func TestSame(t *testing.T) {
	for i, a := range slices.Concat(rightVals(), wrongVals()) {
		b := api.Val{Kind: a.Kind, N: a.N, S: strings.Clone(a.S), L: append([]api.Val{}, a.L...)}
		if !val.Same(a, b) || !val.Same(b, a) || val.Compare(a, b) != 0 {
			t.Errorf("%+v is not the same", a)
		}
		for k, c := range []api.Val{{Kind: a.Kind + 1, N: a.N, S: a.S, L: a.L}, {Kind: a.Kind, N: a.N ^ 1, S: a.S, L: a.L}, {Kind: a.Kind, N: a.N, S: a.S + "s", L: a.L}, {Kind: a.Kind, N: a.N, S: a.S, L: append(b.L, num(1))}} {
			if val.Same(a, c) || val.Same(c, a) {
				t.Errorf("%d: %+v is the same, with another part %d", i, a, k)
			}
		}
	}
	if !val.Same(list(list(api.Val{L: []api.Val{}})), list(list(api.Val{}))) {
		t.Error("a nil and an empty list")
	}
}

// P3.7: of any three values, right or not, what Compare tells is one order.
func TestCompareIsAnOrder(t *testing.T) {
	var l []api.Val
	for i, v := range slices.Concat(rightVals(), wrongVals(), inOrder()) {
		if i%3 == 0 || v.Kind == api.List && i%2 == 0 {
			l = append(l, v)
		}
	}
	for _, a := range l {
		for _, b := range l {
			c := val.Compare(a, b)
			if c != -val.Compare(b, a) || c < -1 || c > 1 || (c == 0) != val.Same(a, b) {
				t.Fatalf("%+v and %+v: %d, %d", a, b, c, val.Compare(b, a))
			}
		}
	}
	slices.SortStableFunc(l, val.Compare)
	for i, a := range l {
		for _, b := range l[i:] {
			if val.Compare(a, b) > 0 {
				t.Fatalf("%+v stands behind %+v", a, b)
			}
		}
	}
}

// plainRightType is which types DOC.md calls right.
func plainRightType(t api.Type) bool {
	single := map[int]bool{api.Num: true, api.Text: true, api.Ref: true, api.Weak: true}
	return single[t.Kind] && t.Of == 0 || t.Kind == api.List && single[t.Of]
}

// plainFits is what DOC.md says of a right value and a right type.
func plainFits(v api.Val, t api.Type) bool {
	if v.Kind == api.Nil && (t.Kind == api.Ref || t.Kind == api.Weak) {
		return true
	}
	if v.Kind != t.Kind {
		return false
	}
	for _, w := range v.L {
		if !plainFits(w, api.Type{Kind: t.Of}) {
			return false
		}
	}
	return true
}

// types are all types of kinds about those that there are.
func types() []api.Type {
	var l []api.Type
	kinds := []int{math.MinInt, -2, -1, 0, 1, 2, 3, 4, 5, 6, 7, math.MaxInt}
	for _, kind := range kinds {
		for _, of := range kinds {
			l = append(l, api.Type{Kind: kind, Of: of})
		}
	}
	return l
}

// P3.2: what fits a type.
func TestFits(t *testing.T) {
	mixed := []api.Val{list(ref(1), api.Val{}), list(api.Val{}, weak(2)), list(ref(1), weak(1)), list(num(1), api.Val{}), list(api.Val{}, text("")), list(num(1), num(2), text("a")), list(text("a"), ref(-1)), list(ref(-20), ref(5))}
	for _, to := range types() {
		for _, v := range append(rightVals(), mixed...) {
			if got, want := val.Fits(v, to), plainRightType(to) && plainFits(v, to); got != want {
				t.Errorf("%+v to %v: %t", v, to, got)
			}
		}
		for _, v := range wrongVals() {
			if val.Fits(v, to) {
				t.Errorf("%+v, which is not right, fits %v", v, to)
			}
		}
	}
}

// P3.2: what fits a type, and says least.
func TestZero(t *testing.T) {
	least := map[api.Type]api.Val{{Kind: api.Num}: num(0), {Kind: api.Text}: text("")}
	for _, of := range []int{api.Num, api.Text, api.Ref, api.Weak} {
		least[api.Type{Kind: api.List, Of: of}] = list()
	}
	for _, to := range types() {
		v := val.Zero(to)
		if !val.Same(v, least[to]) {
			t.Errorf("%v: %+v", to, v)
		}
		if val.Fits(v, to) != plainRightType(to) {
			t.Errorf("%v: %+v does not fit", to, v)
		}
	}
}

// P3.3: all references, as they stand, each time.
func TestRefs(t *testing.T) {
	for _, x := range []struct {
		v           api.Val
		refs, weaks []int
	}{
		{ref(7), []int{7}, nil}, {weak(7), nil, []int{7}}, {ref(-20), []int{-20}, nil}, {weak(-1), nil, []int{-1}},
		{api.Val{}, nil, nil}, {num(7), nil, nil}, {text("@7"), nil, nil}, {list(), nil, nil}, {list(num(7), text("~7"), api.Val{}), nil, nil},
		{list(ref(9), weak(3), ref(2), ref(9), api.Val{}, weak(3), weak(100000), ref(-4)), []int{9, 2, 9, -4}, []int{3, 3, 100000}},
		{list(slices.Repeat([]api.Val{ref(5)}, 12)...), slices.Repeat([]int{5}, 12), nil},
		{ref(0), nil, nil}, {weak(0), nil, nil}, {ref(100001), nil, nil}, {weak(-21), nil, nil},
		{api.Val{Kind: api.Ref, N: 7, S: "a"}, nil, nil}, {api.Val{Kind: api.Weak, N: 7, L: []api.Val{ref(1)}}, nil, nil},
		{list(ref(1), weak(1), ref(0)), nil, nil}, {list(ref(1), weak(2), list(ref(3))), nil, nil}, {nest(ref(1), 2), nil, nil}, {api.Val{Kind: api.Num, L: []api.Val{ref(1), weak(1)}}, nil, nil},
		{list(slices.Repeat([]api.Val{ref(5), weak(6)}, 7)...), nil, nil}, {api.Val{Kind: api.List, N: 1, L: []api.Val{ref(1), weak(1)}}, nil, nil},
	} {
		if l := val.Refs(x.v); !slices.Equal(l, x.refs) {
			t.Errorf("%+v has strong %v", x.v, l)
		}
		if l := val.Weaks(x.v); !slices.Equal(l, x.weaks) {
			t.Errorf("%+v has weak %v", x.v, l)
		}
	}
}

// R1: lists within lists, as deep as the bound allows, are gone through.
func TestDeep(t *testing.T) {
	a, b, c := nest(num(1), 1<<16), nest(num(1), 1<<16), nest(num(2), 1<<16)
	if !val.Same(a, b) || val.Same(a, c) || val.Compare(a, c) != -1 || val.Compare(c, b) != 1 {
		t.Error("deep lists")
	}
	if val.Right(a) || val.Fits(a, api.Type{Kind: api.List, Of: api.Num}) || len(val.Refs(a))+len(val.Weaks(a)) > 0 {
		t.Error("deep lists are right")
	}
	if s, e := val.Encode(a); s != "" || e != api.ErrVal {
		t.Error(e)
	}
	if s, e := val.Text(a); s != "" || e != api.ErrVal {
		t.Error(e)
	}
}

// R3: what is handed in is not written into, nor its spare room; what is answered is new memory.
func TestMemory(t *testing.T) {
	room := []api.Val{ref(1), text("a"), weak(2), ref(3), num(99), num(98)}
	v := api.Val{Kind: api.List, L: room[:4:6]}
	refs, weaks := val.Refs(v), val.Weaks(v)
	clear(refs[:cap(refs)])
	clear(weaks[:cap(weaks)])
	val.Encode(v)
	val.Text(v)
	val.Fits(v, api.Type{Kind: api.List, Of: api.Ref})
	val.Compare(v, v)
	if !val.Same(list(room...), list(ref(1), text("a"), weak(2), ref(3), num(99), num(98))) {
		t.Error(room)
	}
	if refs = val.Refs(v); !slices.Equal(refs, []int{1, 3}) {
		t.Error(refs)
	}
}

package class_test

import (
	"math"
	"regexp"
	"slices"
	"strings"
	"testing"

	"moraine/api"
	"moraine/class"
	"moraine/val"
)

var (
	numType  = api.Type{Kind: api.Num}
	textType = api.Type{Kind: api.Text}
	refType  = api.Type{Kind: api.Ref}
	weakType = api.Type{Kind: api.Weak}
)

func listOf(kind int) api.Type                      { return api.Type{Kind: api.List, Of: kind} }
func field(name string, t api.Type) api.Field       { return api.Field{Name: name, Type: t} }
func indexed(name string, t api.Type) api.Field     { return api.Field{Name: name, Type: t, Indexed: true} }
func of(name string, fields ...api.Field) api.Class { return api.Class{Name: name, Fields: fields} }

func num(n int) api.Val         { return api.Val{Kind: api.Num, N: n} }
func text(s string) api.Val     { return api.Val{Kind: api.Text, S: s} }
func ref(n int) api.Val         { return api.Val{Kind: api.Ref, N: n} }
func weak(n int) api.Val        { return api.Val{Kind: api.Weak, N: n} }
func list(l ...api.Val) api.Val { return api.Val{Kind: api.List, L: l} }

// node is the class of DOC.md's first example, pair the chapter's.
func node() api.Class { return of("node", field("n", numType), field("next", refType)) }
func pair() api.Class { return of("pair", field("a", numType), field("b", refType)) }

// rightTypes are all the types that DOC.md calls right.
func rightTypes() []api.Type {
	return []api.Type{numType, textType, refType, weakType, listOf(api.Num), listOf(api.Text), listOf(api.Ref), listOf(api.Weak)}
}

// types are all types of kinds about those that there are.
func types() []api.Type {
	var l []api.Type
	kinds := []int{math.MinInt, -2, -1, 0, 1, 2, 3, 4, 5, 6, 7, 255, 256, 257, 1 << 32, 1<<32 + 1, math.MaxInt}
	for _, kind := range kinds {
		for _, part := range kinds {
			l = append(l, api.Type{Kind: kind, Of: part})
		}
	}
	return l
}

var nameForm = regexp.MustCompile(`\A[a-z][a-z0-9_]{0,19}\z`)

// plainRight is which classes are right, by the chapter's words.
func plainRight(c api.Class) bool {
	if !nameForm.MatchString(c.Name) || len(c.Fields) > 8 {
		return false
	}
	names := map[string]bool{}
	for _, f := range c.Fields {
		if !nameForm.MatchString(f.Name) || names[f.Name] || !slices.Contains(rightTypes(), f.Type) {
			return false
		}
		if f.Indexed && f.Type.Kind > api.Ref {
			return false
		}
		names[f.Name] = true
	}
	return true
}

// rightNames are names, those at each edge among them.
func rightNames() []string {
	l := []string{"aa", "a0", "a9", "a_", "z_", "z0", "m__", "node", "a_b_c_1_2_3", "n0123456789", "zzzzzzzzzzzzzzzzzzz", "abcdefghijklmnopqrst", "uvwxyz", "a___________________", "a0000000000000000000", "left", "num", "nil"}
	for c := 'a'; c <= 'z'; c++ {
		l = append(l, string(c))
	}
	return l
}

// wrongNames are texts that are no names.
func wrongNames() []string {
	l := []string{"", "_", "0", "9", "_a", "0a", "9a", "__", "A", "Z", "aA", "Aa", "aZ", " ", " a", "a ", "a b", "a-b", "a.b", "é", "aé", "ａ", "a\u0301", "\xff", "a\xff", "a\xc3", "\x00", "a\x00", "a\n", "\na", "a\ta", "a\x7f", "ſ", "K", "a٣", "a²",
		"abcdefghijklmnopqrstu", "a____________________", "abcdefghijklmnopqrst\x00", "abcdefghijklmnopqrsté", strings.Repeat("a", 21), strings.Repeat("a", 60), strings.Repeat("a", 10001)}
	for i := range 256 {
		b := byte(i)
		if b < 'a' || b > 'z' {
			l = append(l, string([]byte{b}), string([]byte{b, 'a'}))
			if (b < '0' || b > '9') && b != '_' {
				l = append(l, string([]byte{'a', b}), string([]byte{'a', b, 'a'}), strings.Repeat("z", 19)+string([]byte{b}))
			}
		}
	}
	return l
}

// letters are n fields with names of their own.
func letters(n int) []api.Field {
	var l []api.Field
	for i := range n {
		l = append(l, field("f_"+string(rune('a'+i)), rightTypes()[i%8]))
	}
	return l
}

// rightClasses are right classes, no two the same.
func rightClasses() []api.Class {
	l := []api.Class{node(), pair(), of("a", field("a", numType)), of("pair", field("b", refType), field("a", numType)), of("pair", indexed("a", numType), field("b", refType)), of("pair", field("a", numType), indexed("b", refType)), of("ab"), of("b", field("a", numType), field("aa", numType), field("a_", numType), field("a0", numType))}
	for _, name := range rightNames() {
		l = append(l, of(name), of("c", field(name, textType)), of("d", field("y_y", numType), indexed(name, refType)), of(name, field("x_x", numType), field(name, weakType)))
	}
	for _, t := range rightTypes() {
		l = append(l, of("t", field("f", t)), of("t", field("g", textType), field("f", t)))
		if t.Kind == api.Num || t.Kind == api.Text || t.Kind == api.Ref {
			l = append(l, of("t", indexed("f", t)), of("t", indexed("g", textType), indexed("f", t)))
		}
	}
	for n := 3; n <= 8; n++ {
		l = append(l, of("many", letters(n)...))
	}
	full := of(strings.Repeat("w", 20))
	for i := range 8 {
		full.Fields = append(full.Fields, indexed(strings.Repeat("v", 19)+string(rune('0'+i)), rightTypes()[i%3]))
	}
	return append(l, full)
}

// wrongClasses are classes that are not right, each for one fault alone.
func wrongClasses() []api.Class {
	l := []api.Class{{}, of("a", letters(9)...), of("a", letters(10)...), of("a", letters(20)...), of("a", api.Field{}), of("a", field("b", api.Type{})), of("a", make([]api.Field, 8)...)}
	for _, name := range wrongNames() {
		l = append(l, of(name), of(name, field("a", numType)), of("a", field(name, numType)), of("a", field("b", numType), field(name, numType)), of("a", field(name, numType), field("b", numType)))
	}
	for _, t := range types() {
		right := slices.Contains(rightTypes(), t)
		if !right {
			l = append(l, of("a", field("b", t)), of("a", field("b", t), field("c", numType)), of("a", field("c", numType), field("b", t)))
		}
		if !right || t.Kind > api.Ref {
			l = append(l, of("a", indexed("b", t)), of("a", indexed("c", numType), indexed("b", t)), of("a", indexed("b", t), field("c", numType)))
		}
	}
	for i := range 8 {
		for k := range i {
			c := of("a", letters(8)...)
			c.Fields[i].Name = c.Fields[k].Name
			l = append(l, c)
		}
	}
	return append(l, of("a", field("b", numType), field("b", numType)), of("a", field("b", numType), field("b", textType)), of("a", field("b", numType), indexed("b", numType)))
}

// P4.1: which types are right.
func TestRightType(t *testing.T) {
	for _, x := range types() {
		if got := class.RightType(x); got != slices.Contains(rightTypes(), x) {
			t.Errorf("%v: %t", x, got)
		}
	}
}

// P4.1: which classes are right.
func TestRight(t *testing.T) {
	for _, c := range rightClasses() {
		if !class.Right(c) || !plainRight(c) {
			t.Errorf("%+v is not right", c)
		}
	}
	for _, c := range wrongClasses() {
		if class.Right(c) || plainRight(c) {
			t.Errorf("%+v is right", c)
		}
	}
	if !class.Right(api.Class{Name: "a", Fields: []api.Field{}}) || !class.Right(api.Class{Name: "a"}) {
		t.Error("no fields, nil and empty")
	}
	if class.Right(of("a", slices.Repeat([]api.Field{field("b", numType)}, 1<<20)...)) || class.Right(of(strings.Repeat("a", 1<<24))) {
		t.Error("a million fields, or letters")
	}
}

// P4.1: names of two bytes, all of them, of a class and of a field.
func TestNames(t *testing.T) {
	for i := range 1 << 16 {
		s := string([]byte{byte(i >> 8), byte(i)})
		want := nameForm.MatchString(s)
		if class.Right(of(s)) != want || class.Right(of("a", field("b", numType), field(s, numType))) != want {
			t.Errorf("%q: %t", s, !want)
		}
	}
	for n := range 70 {
		if s := strings.Repeat("a", n); class.Right(of(s)) != (n >= 1 && n <= 20) || class.Right(of("b", field(s, numType))) != (n >= 1 && n <= 20) {
			t.Errorf("%d letters", n)
		}
	}
}

// turned are classes that are a but for one part.
func turned(a api.Class) []api.Class {
	clone := func() api.Class { return api.Class{Name: a.Name, Fields: slices.Clone(a.Fields)} }
	more, longer, empty := clone(), clone(), clone()
	more.Name += "a"
	longer.Fields = append(longer.Fields, api.Field{})
	empty.Name = strings.ToUpper(a.Name) + "_"
	l := []api.Class{more, longer, empty}
	for i := range a.Fields {
		c := clone()
		l = append(l, api.Class{Name: c.Name, Fields: c.Fields[:i]}, api.Class{Name: c.Name, Fields: slices.Delete(clone().Fields, i, i+1)})
		for _, turn := range []func(*api.Field){func(f *api.Field) { f.Name += "a" }, func(f *api.Field) { f.Type.Kind++ }, func(f *api.Field) { f.Type.Of++ }, func(f *api.Field) { f.Indexed = !f.Indexed }} {
			c = clone()
			turn(&c.Fields[i])
			l = append(l, c)
		}
	}
	return l
}

// P4.1: what was made anew of the same parts is the same, right or not, and nothing with another part.
func TestSame(t *testing.T) {
	for _, a := range slices.Concat(rightClasses(), wrongClasses()) {
		b := api.Class{Name: strings.Clone(a.Name), Fields: append([]api.Field{}, a.Fields...)}
		if !class.Same(a, b) || !class.Same(b, a) || !class.Same(a, a) {
			t.Errorf("%+v is not the same", a)
		}
		for i, c := range turned(a) {
			if class.Same(a, c) || class.Same(c, a) {
				t.Errorf("%+v is the same, turned: %d", a, i)
			}
		}
	}
	l := rightClasses()
	for i, a := range l {
		for k, b := range l {
			if class.Same(a, b) != (i == k) {
				t.Errorf("%+v and %+v: %t", a, b, i != k)
			}
		}
	}
	if class.Same(of("a", field("b", numType), field("c", numType)), of("a", field("c", numType), field("b", numType))) {
		t.Error("fields in another order")
	}
	if !class.Same(api.Class{}, api.Class{Fields: []api.Field{}}) || class.Same(api.Class{}, of("a")) || class.Same(api.Class{}, of("", api.Field{})) {
		t.Error("no name, no fields")
	}
}

// P4.1: the first field of a name, in right classes and others.
func TestField(t *testing.T) {
	twice := of("A b", field("", weakType), field("x", api.Type{}), indexed("x", numType), field("é\xff", numType), field("", numType), field("y", numType), field("x", refType), field("a", numType), field("b", numType), field("y", textType))
	for _, x := range []struct {
		c    api.Class
		name string
		at   int
		ok   bool
	}{
		{node(), "n", 0, true}, {node(), "next", 1, true}, {node(), "node", 0, false}, {node(), "", 0, false}, {node(), "nex", 0, false}, {node(), "nextt", 0, false}, {node(), "N", 0, false}, {node(), " n", 0, false},
		{twice, "", 0, true}, {twice, "x", 1, true}, {twice, "é\xff", 3, true}, {twice, "y", 5, true}, {twice, "a", 7, true}, {twice, "b", 8, true}, {twice, "A b", 0, false}, {twice, "é\ufffd", 0, false}, {twice, "é", 0, false},
		{api.Class{}, "", 0, false}, {api.Class{}, "a", 0, false}, {of("a"), "a", 0, false}, {of("a", field("a", numType)), "a", 0, true},
	} {
		if at, ok := class.Field(x.c, x.name); at != x.at || ok != x.ok {
			t.Errorf("%q of %+v: %d, %t", x.name, x.c, at, ok)
		}
	}
	for _, c := range rightClasses() {
		for i, f := range c.Fields {
			if at, ok := class.Field(c, strings.Clone(f.Name)); at != i || !ok {
				t.Errorf("%q of %+v: %d, %t", f.Name, c, at, ok)
			}
		}
		if at, ok := class.Field(c, "none"); at != 0 || ok {
			t.Errorf("none of %+v: %d, %t", c, at, ok)
		}
	}
}

// fitting is a value that fits a right type and is not the one that says least.
func fitting(t api.Type) api.Val {
	switch t.Kind {
	case api.Num:
		return num(5)
	case api.Text:
		return text("a b")
	case api.List:
		return list(fitting(api.Type{Kind: t.Of}), fitting(api.Type{Kind: t.Of}))
	}
	return api.Val{Kind: t.Kind, N: 3}
}

// fittings are values that fit a class's fields.
func fittings(c api.Class) []api.Val {
	var l []api.Val
	for _, f := range c.Fields {
		l = append(l, fitting(f.Type))
	}
	return l
}

// P4.2: the chapter's examples, and their like.
func TestCheckExamples(t *testing.T) {
	three := of("three", field("a", numType), field("b", listOf(api.Weak)), field("c", textType))
	wrongRef := of("pair", field("a", numType), field("b", api.Type{Kind: api.Ref, Of: api.Num}))
	for i, x := range []struct {
		c    api.Class
		vals []api.Val
		at   int
		e    api.Errno
	}{
		{pair(), []api.Val{num(5), ref(3)}, 0, api.OK}, {pair(), []api.Val{num(5), {}}, 0, api.OK}, {pair(), []api.Val{num(5), ref(-20)}, 0, api.OK},
		{pair(), []api.Val{num(5)}, 1, api.ErrFit}, {pair(), nil, 0, api.ErrFit}, {pair(), []api.Val{}, 0, api.ErrFit}, {pair(), []api.Val{num(5), ref(3), num(5)}, 2, api.ErrFit}, {pair(), make([]api.Val, 1000), 2, api.ErrFit},
		{pair(), []api.Val{text("")}, 1, api.ErrFit}, {pair(), []api.Val{text(""), num(1), num(1)}, 2, api.ErrFit},
		{pair(), []api.Val{ref(3), num(5)}, 0, api.ErrFit}, {pair(), []api.Val{num(5), num(5)}, 1, api.ErrFit}, {pair(), []api.Val{{}, ref(3)}, 0, api.ErrFit}, {pair(), []api.Val{num(5), weak(3)}, 1, api.ErrFit}, {pair(), []api.Val{num(5), list(ref(3))}, 1, api.ErrFit},
		{pair(), []api.Val{num(api.MaxNum + 1), ref(3)}, 0, api.ErrFit}, {pair(), []api.Val{num(5), ref(0)}, 1, api.ErrFit}, {pair(), []api.Val{num(5), ref(100001)}, 1, api.ErrFit}, {pair(), []api.Val{num(5), {N: 1}}, 1, api.ErrFit}, {pair(), []api.Val{{Kind: api.Num, N: 5, S: "a"}, ref(3)}, 0, api.ErrFit},
		{three, []api.Val{num(0), list(), text("")}, 0, api.OK}, {three, []api.Val{num(0), list(weak(1), api.Val{}), text("x")}, 0, api.OK}, {three, []api.Val{num(0), list(weak(1), ref(1)), text("x")}, 1, api.ErrFit}, {three, []api.Val{num(0), list(), text("\x1f")}, 2, api.ErrFit}, {three, []api.Val{num(0), {}, text("")}, 1, api.ErrFit}, {three, []api.Val{num(0), list(list()), num(1)}, 1, api.ErrFit}, {three, []api.Val{num(0), list(), {}}, 2, api.ErrFit},
		{of("a"), nil, 0, api.OK}, {of("a"), []api.Val{}, 0, api.OK}, {of("a"), []api.Val{{}}, 0, api.ErrFit}, {of("a"), []api.Val{num(1), num(2)}, 0, api.ErrFit},
		{api.Class{}, nil, 0, api.ErrClass}, {of(""), []api.Val{{}}, 0, api.ErrClass}, {wrongRef, []api.Val{num(5), ref(3)}, 0, api.ErrClass}, {wrongRef, []api.Val{num(5)}, 0, api.ErrClass}, {wrongRef, []api.Val{num(5), num(5)}, 0, api.ErrClass}, {of("a", indexed("b", weakType)), []api.Val{weak(1)}, 0, api.ErrClass},
	} {
		if at, e := class.Check(x.c, x.vals); at != x.at || e != x.e {
			t.Errorf("%d: %+v, %+v: %d, %d", i, x.c, x.vals, at, e)
		}
	}
}

// P4.2: of each class and of each place, how many values there are, and which one does not fit.
func TestCheck(t *testing.T) {
	for _, c := range rightClasses() {
		vals := fittings(c)
		for n := range 12 {
			some := slices.Repeat([]api.Val{{Kind: 9}}, n)
			copy(some, vals)
			want, told := min(n, len(vals)), api.ErrFit
			if n == len(vals) {
				want, told = 0, api.OK
			}
			if at, e := class.Check(c, some); at != want || e != told {
				t.Errorf("%d values of %+v: %d, %d", n, c, at, e)
			}
		}
		for i := range vals {
			for k := range i + 1 {
				bad := slices.Clone(vals)
				bad[i], bad[k] = api.Val{Kind: 9}, api.Val{Kind: 9}
				if at, e := class.Check(c, bad); at != k || e != api.ErrFit {
					t.Errorf("values %d and %d of %+v do not fit: %d, %d", k, i, c, at, e)
				}
			}
		}
	}
	for _, c := range wrongClasses() {
		for _, vals := range [][]api.Val{nil, make([]api.Val, len(c.Fields)), {num(1)}, {num(1), num(1)}, {{Kind: 9}}} {
			if at, e := class.Check(c, vals); at != 0 || e != api.ErrClass {
				t.Errorf("%+v of %+v, which is not right: %d, %d", vals, c, at, e)
			}
		}
	}
}

// P4.2: a value fits a field just when it fits its type, at each place, indexed or not.
func TestCheckFits(t *testing.T) {
	vals := []api.Val{{}, num(0), num(-api.MaxNum), text(""), text("é"), ref(1), ref(-1), weak(100000), weak(-20), list(), list(num(1)), list(text("a"), text("b")), list(ref(1), api.Val{}), list(api.Val{}, weak(2)), list(api.Val{}), list(num(1), text("a")), list(ref(1), weak(1)), list(list()), list(slices.Repeat([]api.Val{num(1)}, 12)...), list(slices.Repeat([]api.Val{num(1)}, 13)...),
		{Kind: -1}, {Kind: 6}, {N: 1}, {S: "a"}, num(math.MaxInt), num(math.MinInt), text("\x00"), text("\xff"), text(strings.Repeat("x", 60)), text(strings.Repeat("x", 61)), ref(0), ref(-21), weak(0), weak(100001), {Kind: api.List, N: 1}, {Kind: api.Text, N: 1}, {Kind: api.Ref, N: 1, L: []api.Val{{}}}, list(ref(0)), {L: []api.Val{}}}
	for _, c := range rightClasses() {
		for i, f := range c.Fields {
			for _, v := range vals {
				some := fittings(c)
				some[i] = v
				at, e := class.Check(c, some)
				if fits := val.Fits(v, f.Type); fits && (at != 0 || e != api.OK) || !fits && (at != i || e != api.ErrFit) {
					t.Errorf("%+v at %d of %+v: %d, %d", v, i, c, at, e)
				}
			}
		}
	}
}

// P4.4: values that fit go on fitting, where a class and its fields are named otherwise, and where it is read back.
func TestFitGoesOn(t *testing.T) {
	for _, c := range rightClasses() {
		vals := fittings(c)
		other := of("other_one")
		for i, f := range c.Fields {
			other.Fields = append(other.Fields, field("o"+string(rune('0'+i)), f.Type))
		}
		s, _ := class.Encode(c)
		back, _, _ := class.Decode(s, 0)
		for _, d := range []api.Class{c, other, back} {
			if at, e := class.Check(d, vals); at != 0 || e != api.OK {
				t.Errorf("%+v of %+v: %d, %d", vals, d, at, e)
			}
		}
	}
}

// R3: what is handed in is not written into, nor its spare room.
func TestMemory(t *testing.T) {
	fields := append(letters(4), indexed("x", numType), indexed("y", numType))
	vals := []api.Val{num(1), text("a"), ref(2), weak(3), num(4), num(5)}
	c, d := api.Class{Name: "a", Fields: fields[:4:6]}, api.Class{Name: "a", Fields: fields[:5:6]}
	class.Right(c)
	class.Same(c, d)
	class.Field(c, "x")
	class.Encode(c)
	for n := range vals {
		class.Check(c, vals[:n:6])
		class.Check(d, vals[:n:6])
	}
	if !slices.Equal(fields, append(letters(4), indexed("x", numType), indexed("y", numType))) {
		t.Error(fields)
	}
	if !val.Same(list(vals...), list(num(1), text("a"), ref(2), weak(3), num(4), num(5))) {
		t.Error(vals)
	}
}

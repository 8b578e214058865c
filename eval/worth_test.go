package eval_test

import (
	"math/rand"
	"slices"
	"strconv"
	"strings"
	"testing"

	"moraine/api"
	"moraine/eval"
	"moraine/expr"
	"moraine/val"
)

const most = api.MaxNum

// numbers are numbers at each edge, and others.
func numbers() []int {
	l := []int{0, 1, 2, 3, 4, 7, 9, 10, 11, 60, 61, 99, 100, 255, 1 << 31, 1<<31 - 1, 1 << 32, 1<<32 + 1, 31622776, 31622777, 3037000500, 4294967295, most / 2, most/2 + 1, most / 3, most/3 + 1, most / 10, most/10 + 1, 18446744, 92233720368, 1<<49 + 1, most - 2, most - 1, most}
	for _, n := range l[1:] {
		l = append(l, -n)
	}
	return l
}

// texts are texts at each edge, and others.
func texts() []string {
	return []string{"", " ", "a", "b", "aa", "ab", "ba", "aab", "abab", "aaab", "A", "~", `"`, `\`, "é", "e\u0301", "éa", "aé", "é€𝄞", "€", "𝄞", "\ufffd", "\ufeff", "\U0010ffff", "\u0080", "日本", "日", "本",
		strings.Repeat("x", 58), strings.Repeat("x", 59), strings.Repeat("x", 60), strings.Repeat("é", 29), strings.Repeat("é", 30), "x" + strings.Repeat("é", 29), strings.Repeat("€", 19), strings.Repeat("€", 20), strings.Repeat("𝄞", 14), strings.Repeat("𝄞", 15), strings.Repeat("\ufffd", 20), strings.Repeat("x", 57) + "é", strings.Repeat("ab", 29) + "b", "0", "-0", "7", "007", "-7", "+7", "1000000000000000", "1000000000000001"}
}

// P6.2: what is worth what, as the table says it.
func TestWorth(t *testing.T) {
	x59, x60 := strings.Repeat("x", 59), strings.Repeat("x", 60)
	for _, x := range []struct {
		s    string
		vals []api.Val
		want api.Val
	}{
		{"n+m", pairVals(2, 3, "", ""), numV(5)}, {"n+m", pairVals(most, 1, "", ""), numV(most)}, {"n+m", pairVals(most, most, "", ""), numV(most)}, {"n+m", pairVals(-most, -1, "", ""), numV(-most)}, {"n+m", pairVals(most, -most, "", ""), numV(0)}, {"n+m-1", pairVals(most, most, "", ""), numV(most - 1)},
		{"n-m", pairVals(2, 3, "", ""), numV(-1)}, {"n-m", pairVals(-most, 1, "", ""), numV(-most)}, {"n-m", pairVals(most, -most, "", ""), numV(most)}, {"n-m", pairVals(-most, -most, "", ""), numV(0)},
		{"n*m", pairVals(6, -7, "", ""), numV(-42)}, {"n*m", pairVals(-6, -7, "", ""), numV(42)}, {"n*m", pairVals(0, -most, "", ""), numV(0)}, {"n*m", pairVals(most, most, "", ""), numV(most)}, {"n*m", pairVals(-most, most, "", ""), numV(-most)}, {"n*m", pairVals(-most, -most, "", ""), numV(most)}, {"n*m", pairVals(1<<32, 1<<32, "", ""), numV(most)}, {"n*m", pairVals(1<<32, -1<<31, "", ""), numV(-most)}, {"n*m", pairVals(31622776, 31622776, "", ""), numV(999999961946176)}, {"n*m", pairVals(31622777, 31622777, "", ""), numV(most)}, {"n*m", pairVals(most/2, 2, "", ""), numV(most)}, {"n*m", pairVals(most, -1, "", ""), numV(-most)},
		{"n/m", pairVals(7, 2, "", ""), numV(3)}, {"n/m", pairVals(-7, 2, "", ""), numV(-3)}, {"n/m", pairVals(7, -2, "", ""), numV(-3)}, {"n/m", pairVals(-7, -2, "", ""), numV(3)}, {"n/m", pairVals(1, 2, "", ""), numV(0)}, {"n/m", pairVals(-most, -1, "", ""), numV(most)}, {"n/m", pairVals(5, 0, "", ""), numV(0)}, {"n/m", pairVals(0, 0, "", ""), numV(0)},
		{"n%m", pairVals(7, 4, "", ""), numV(3)}, {"n%m", pairVals(-7, 4, "", ""), numV(-3)}, {"n%m", pairVals(7, -4, "", ""), numV(3)}, {"n%m", pairVals(-7, -4, "", ""), numV(-3)}, {"n%m", pairVals(8, 4, "", ""), numV(0)}, {"n%m", pairVals(-5, 0, "", ""), numV(0)}, {"n%m", pairVals(3, most, "", ""), numV(3)},
		{"-n", pairVals(5, 0, "", ""), numV(-5)}, {"-n", pairVals(0, 0, "", ""), numV(0)}, {"-n", pairVals(-most, 0, "", ""), numV(most)}, {"-(-n)", pairVals(most, 0, "", ""), numV(most)},
		{"n=m", pairVals(5, 5, "", ""), numV(1)}, {"n=m", pairVals(5, -5, "", ""), numV(0)}, {"n<>m", pairVals(5, 5, "", ""), numV(0)}, {"n<>m", pairVals(5, 6, "", ""), numV(1)}, {"n<m", pairVals(5, 6, "", ""), numV(1)}, {"n<m", pairVals(5, 5, "", ""), numV(0)}, {"n<m", pairVals(10, 9, "", ""), numV(0)}, {"n<=m", pairVals(5, 5, "", ""), numV(1)}, {"n<=m", pairVals(6, 5, "", ""), numV(0)}, {"n>m", pairVals(-1, -2, "", ""), numV(1)}, {"n>m", pairVals(5, 5, "", ""), numV(0)}, {"n>=m", pairVals(5, 5, "", ""), numV(1)}, {"n>=m", pairVals(-5, 5, "", ""), numV(0)},
		{"t=u", pairVals(0, 0, "a", "a"), numV(1)}, {"t=u", pairVals(0, 0, "é", "e\u0301"), numV(0)}, {"t<>u", pairVals(0, 0, "", " "), numV(1)}, {"t<u", pairVals(0, 0, "", "a"), numV(1)}, {"t<u", pairVals(0, 0, "B", "a"), numV(1)}, {"t<u", pairVals(0, 0, "10", "9"), numV(1)}, {"t<u", pairVals(0, 0, "a", "aa"), numV(1)}, {"t<u", pairVals(0, 0, "z", "é"), numV(1)}, {"t>u", pairVals(0, 0, "𝄞", "\ufffd"), numV(1)}, {"t>=u", pairVals(0, 0, "b", "ab"), numV(1)}, {"t<=u", pairVals(0, 0, "b", "ab"), numV(0)}, {"n=m=1", pairVals(5, 5, "", ""), numV(1)},
		{"t&u", pairVals(0, 0, "ab", "cd"), textV("abcd")}, {"t&u", pairVals(0, 0, "", ""), textV("")}, {"t&u", pairVals(0, 0, x60, "y"), textV(x60)}, {"t&u", pairVals(0, 0, x59, "yz"), textV(x59 + "y")}, {"t&u", pairVals(0, 0, x59, "éz"), textV(x59)}, {"t&u", pairVals(0, 0, x59[1:], "éz"), textV(x59[1:] + "é")}, {"t&u", pairVals(0, 0, x59[2:], "𝄞z"), textV(x59[2:])}, {"t&u", pairVals(0, 0, x59[3:], "𝄞z"), textV(x59[3:] + "𝄞")}, {"t&u", pairVals(0, 0, "y", x60), textV("y" + x59)}, {`t&u&"z"`, pairVals(0, 0, x59, "é"), textV(x59 + "z")}, {`t&(u&"z")`, pairVals(0, 0, x59, "é"), textV(x59)}, {"len(t&u)", pairVals(0, 0, strings.Repeat("€", 20), "€"), numV(20)},
		{"len(t)", pairVals(0, 0, "", ""), numV(0)}, {"len(t)", pairVals(0, 0, "aé€𝄞", ""), numV(4)}, {"len(t)", pairVals(0, 0, "e\u0301", ""), numV(2)}, {"len(t)", pairVals(0, 0, x60, ""), numV(60)}, {"len(t)", pairVals(0, 0, "\ufffd\ufeff", ""), numV(2)},
		{"left(t,n)", pairVals(2, 0, "aé€𝄞", ""), textV("aé")}, {"left(t,n)", pairVals(0, 0, "ab", ""), textV("")}, {"left(t,n)", pairVals(-1, 0, "ab", ""), textV("")}, {"left(t,n)", pairVals(-most, 0, "ab", ""), textV("")}, {"left(t,n)", pairVals(2, 0, "ab", ""), textV("ab")}, {"left(t,n)", pairVals(3, 0, "ab", ""), textV("ab")}, {"left(t,n)", pairVals(most, 0, "ab", ""), textV("ab")}, {"left(t,n)", pairVals(1, 0, "", ""), textV("")},
		{"right(t,n)", pairVals(2, 0, "aé€𝄞", ""), textV("€𝄞")}, {"right(t,n)", pairVals(0, 0, "ab", ""), textV("")}, {"right(t,n)", pairVals(-1, 0, "ab", ""), textV("")}, {"right(t,n)", pairVals(-most, 0, "ab", ""), textV("")}, {"right(t,n)", pairVals(2, 0, "ab", ""), textV("ab")}, {"right(t,n)", pairVals(3, 0, "ab", ""), textV("ab")}, {"right(t,n)", pairVals(most, 0, "ab", ""), textV("ab")}, {"right(t,n)", pairVals(1, 0, "", ""), textV("")},
		{"from(t,n)", pairVals(2, 0, "aé€𝄞", ""), textV("€𝄞")}, {"from(t,n)", pairVals(2, 0, "ab c", ""), textV(" c")}, {"from(t,n)", pairVals(0, 0, "ab", ""), textV("ab")}, {"from(t,n)", pairVals(-1, 0, "ab", ""), textV("ab")}, {"from(t,n)", pairVals(-most, 0, "ab", ""), textV("ab")}, {"from(t,n)", pairVals(2, 0, "ab", ""), textV("")}, {"from(t,n)", pairVals(3, 0, "ab", ""), textV("")}, {"from(t,n)", pairVals(most, 0, "ab", ""), textV("")}, {"from(t,n)", pairVals(0, 0, "", ""), textV("")},
		{"find(t,u)", pairVals(0, 0, "abab", "b"), numV(1)}, {"find(t,u)", pairVals(0, 0, "é€b", "b"), numV(2)}, {"find(t,u)", pairVals(0, 0, "abab", "ab"), numV(0)}, {"find(t,u)", pairVals(0, 0, "aaab", "aab"), numV(1)}, {"find(t,u)", pairVals(0, 0, "ab", "c"), numV(-1)}, {"find(t,u)", pairVals(0, 0, "ab", "abc"), numV(-1)}, {"find(t,u)", pairVals(0, 0, "ab", ""), numV(0)}, {"find(t,u)", pairVals(0, 0, "", ""), numV(0)}, {"find(t,u)", pairVals(0, 0, "", "a"), numV(-1)}, {"find(t,u)", pairVals(0, 0, "A", "a"), numV(-1)},
		{"text(n)", pairVals(0, 0, "", ""), textV("0")}, {"text(n)", pairVals(-12, 0, "", ""), textV("-12")}, {"text(n)", pairVals(most, 0, "", ""), textV("1000000000000000")}, {"text(n)", pairVals(-most, 0, "", ""), textV("-1000000000000000")},
		{"if(n,t,u)", pairVals(1, 0, "a", "b"), textV("a")}, {"if(n,t,u)", pairVals(0, 0, "a", "b"), textV("b")}, {"if(n,t,u)", pairVals(-1, 0, "a", "b"), textV("a")}, {"if(n,n,m)", pairVals(0, 3, "", ""), numV(3)}, {"if(n,n,m)", pairVals(-most, 3, "", ""), numV(-most)}, {"if(m,n/m,-1)", pairVals(5, 0, "", ""), numV(-1)},
		{"min(n,m)", pairVals(5, -6, "", ""), numV(-6)}, {"min(n,m)", pairVals(-6, 5, "", ""), numV(-6)}, {"min(n,m)", pairVals(5, 5, "", ""), numV(5)}, {"max(n,m)", pairVals(5, -6, "", ""), numV(5)}, {"max(n,m)", pairVals(-6, 5, "", ""), numV(5)}, {"max(n,m)", pairVals(most, -most, "", ""), numV(most)},
		{"1000000000000000", pairVals(0, 0, "", ""), numV(most)}, {`"a\"\\b"`, pairVals(0, 0, "", ""), textV(`a"\b`)}, {`""`, pairVals(0, 0, "", ""), textV("")}, {"n-m-1", pairVals(9, 3, "", ""), numV(5)}, {"n-(m-1)", pairVals(9, 3, "", ""), numV(7)}, {"n/m*m+n%m", pairVals(-17, 5, "", ""), numV(-17)},
	} {
		e := tree(t, x.s)
		if v, err := eval.Eval(e, pair(), x.vals); !val.Same(v, x.want) || err != api.OK {
			t.Errorf("%s of %v: %v, %d, not %v", x.s, x.vals, v, err, x.want)
		}
		check(t, e, pair(), x.vals)
	}
}

// P6.2: which texts tell a number.
func TestNum(t *testing.T) {
	e, c := call("num", field("t")), of("t", api.Text)
	tells := func(s string, want int) {
		t.Helper()
		check(t, e, c, []api.Val{textV(s)})
		if v, err := eval.Eval(e, c, []api.Val{textV(s)}); !val.Same(v, numV(want)) || err != api.OK {
			t.Errorf("%q: %v, %d, not %d", s, v, err, want)
		}
	}
	for _, n := range numbers() {
		tells(strconv.Itoa(n), n)
		for _, s := range []string{"0" + strconv.Itoa(n), "+" + strconv.Itoa(n), strconv.Itoa(n) + " ", " " + strconv.Itoa(n), "@" + strconv.Itoa(n), "~" + strconv.Itoa(n), "[" + strconv.Itoa(n) + "]", `"` + strconv.Itoa(n) + `"`, "--" + strconv.Itoa(n), strconv.Itoa(n) + "-", strconv.Itoa(n) + ".0", strconv.Itoa(n) + "é", strconv.Itoa(n) + ",5", strconv.Itoa(n) + "_0"} {
			tells(s, 0)
		}
	}
	for _, s := range []string{"", "-", "+", " ", "[]", "-0", "00", "-00", "-01", "1e3", "1_000", "0x10", "0b1", "0o7", "1.", ".5", "a", "five", "１", "٣", "²", "−5", "1\u0301", "NaN", "Inf",
		"1000000000000001", "-1000000000000001", "9999999999999999", "10000000000000000", "9223372036854775807", "9223372036854775808", "-9223372036854775808", "18446744073709551616", "18446744073709551621", "340282366920938463463374607431768211461", strings.Repeat("1", 60), strings.Repeat("0", 59) + "1", "-" + strings.Repeat("9", 59)} {
		tells(s, 0)
	}
	alphabet := "-0129+ a"
	for n := range 8 * 8 * 8 * 8 * 8 {
		s := ""
		for k := n; k > 0; k /= 8 {
			s += alphabet[k%8 : k%8+1]
		}
		check(t, e, c, []api.Val{textV(s)})
	}
}

// P6.2: all operators and calls of two Nums, of numbers at each edge.
func TestOfNums(t *testing.T) {
	var l []api.Expr
	for _, sign := range operators {
		if sign != "&" {
			l = append(l, op(sign, field("n"), field("m")))
		}
	}
	l = append(l, ahead(field("n")), call("text", field("n")), call("num", call("text", field("n"))), call("min", field("n"), field("m")), call("max", field("n"), field("m")), call("if", field("n"), field("m"), num(5)))
	c := of("n", api.Num, "m", api.Num)
	for _, n := range numbers() {
		for _, m := range numbers() {
			for _, e := range l {
				check(t, e, c, []api.Val{numV(n), numV(m)})
			}
		}
	}
}

// P6.2: all operators and calls of two Texts, and of one and a Num, of texts at each edge.
func TestOfTexts(t *testing.T) {
	l := []api.Expr{call("find", field("t"), field("u")), call("len", field("t")), call("num", field("t")), call("if", field("n"), field("t"), field("u"))}
	for _, sign := range operators[5:] {
		l = append(l, op(sign, field("t"), field("u")))
	}
	parts := []api.Expr{call("left", field("t"), field("n")), call("right", field("t"), field("n")), call("from", field("t"), field("n"))}
	counts := numbers()
	for n := range 70 {
		counts = append(counts, n)
	}
	for _, s := range texts() {
		for i, u := range texts() {
			for _, e := range l {
				check(t, e, pair(), pairVals(i%3-1, 0, s, u))
			}
		}
		for _, n := range counts {
			for _, e := range parts {
				check(t, e, pair(), pairVals(n, 0, s, ""))
			}
		}
	}
}

// grower grows trees that have a type, of the fields of a class of two Nums and two Texts.
type grower struct {
	*rand.Rand
	left  int
	wrong int // one of so many parts is of another type than is taken; none, if it is 0
}

// grow is a tree of a kind.
func (g *grower) grow(kind, deep int) api.Expr {
	g.left--
	if g.wrong > 0 && g.Intn(g.wrong) == 0 {
		kind = 3 - kind
	}
	if deep == 8 || g.left < 20 || g.Intn(5) == 0 {
		return g.leaf(kind)
	}
	names := append(slices.Clone(operators), callNames...)
	for {
		name := names[g.Intn(len(names))]
		forms := strings.Fields(takes[name])
		parts, what, _ := strings.Cut(forms[g.Intn(len(forms))], ">")
		if what != map[int]string{api.Num: "n", api.Text: "t"}[kind] {
			continue
		}
		e := api.Expr{Kind: api.ECall, S: name}
		if slices.Contains(operators, name) {
			e.Kind = api.EOp
		}
		if name == "-" && g.Intn(2) == 0 {
			e.Kind, parts = api.EAhead, "n"
		}
		g.left -= len(parts)
		for _, part := range parts {
			g.left++
			e.Kids = append(e.Kids, g.grow(map[rune]int{'n': api.Num, 't': api.Text}[part], deep+1))
		}
		return e
	}
}

// leaf is a tree of a kind that has no parts.
func (g *grower) leaf(kind int) api.Expr {
	if g.wrong > 0 && g.Intn(40*g.wrong) == 0 {
		return field([]string{"nobody", "r", "l"}[g.Intn(3)])
	}
	leaf := g.Intn(4)
	switch {
	case kind == api.Num && leaf == 0:
		l := numbers()
		return num(max(l[g.Intn(len(l))], 0))
	case kind == api.Num && leaf == 1:
		return num(g.Intn(6))
	case kind == api.Num:
		return field([]string{"n", "m"}[g.Intn(2)])
	case leaf == 0:
		l := texts()
		return text(l[g.Intn(len(l))])
	}
	return field([]string{"t", "u"}[g.Intn(2)])
}

// vals are values of the fields that trees grow of.
func (g *grower) vals() []api.Val {
	n, s := numbers(), texts()
	return pairVals(n[g.Intn(len(n))], g.Intn(9)-4, s[g.Intn(len(s))], s[g.Intn(len(s))])
}

// P6.1, P6.2: trees of all kinds of nodes, with and without a type.
func TestRandom(t *testing.T) {
	g := &grower{Rand: rand.New(rand.NewSource(6))}
	typed, not := 0, 0
	for i := range 60000 {
		g.left, g.wrong = 40, i%3*8
		e := g.grow(1+i%2, 1)
		if !expr.Right(e) {
			t.Fatalf("%+v", e)
		}
		if _, ok := plainTypeOf(e, pair()); ok {
			typed++
		} else {
			not++
		}
		check(t, e, pair(), g.vals())
	}
	if typed < 20000 || not < 5000 {
		t.Errorf("%d have a type, %d have none", typed, not)
	}
}

// names are the fields' names in a tree, each time.
func names(e api.Expr) []string {
	var l []string
	if e.Kind == api.EField {
		l = append(l, e.S)
	}
	for _, kid := range e.Kids {
		l = append(l, names(kid)...)
	}
	return l
}

// renamed is a tree with other names of fields.
func renamed(e api.Expr, to map[string]string) api.Expr {
	d := api.Expr{Kind: e.Kind, N: e.N, S: e.S}
	if e.Kind == api.EField {
		d.S = to[e.S]
	}
	for _, kid := range e.Kids {
		d.Kids = append(d.Kids, renamed(kid, to))
	}
	return d
}

// P6.3: a field that is not named makes no difference, nor do other names, nor where fields stand.
func TestSameWhateverElse(t *testing.T) {
	g := &grower{Rand: rand.New(rand.NewSource(7))}
	c, to := pair(), map[string]string{"n": "len", "m": "t", "t": "n", "u": "a_9", "nobody": "nobody", "r": "r", "l": "l"}
	for i := range 20000 {
		g.left, g.wrong = 40, i%2*8
		e, vals := g.grow(1+i/2%2, 1), g.vals()
		typ, err := eval.Type(e, c)
		v, failed := eval.Eval(e, c, vals)
		same := func(what string, e api.Expr, d api.Class, vals []api.Val) {
			t.Helper()
			if kind, told := eval.Type(e, d); kind != typ || told != err {
				t.Fatalf("%s: %s is of %v, %d, not of %v, %d", what, show(e), kind, told, typ, err)
			}
			if w, told := eval.Eval(e, d, vals); !val.Same(v, w) || told != failed {
				t.Fatalf("%s: %s is %v, %d, not %v, %d", what, show(e), w, told, v, failed)
			}
		}
		named, other := api.Class{Name: "d"}, api.Class{Name: "e"}
		var fewer, back []api.Val
		used := names(e)
		for k, f := range c.Fields {
			if slices.Contains(used, f.Name) {
				named.Fields, fewer = append(named.Fields, f), append(fewer, vals[k])
			}
			f.Name, f.Indexed = to[f.Name], k%2 == i%2
			other.Fields, back = append([]api.Field{f}, other.Fields...), append([]api.Val{vals[k]}, back...)
		}
		same("fewer fields", e, named, fewer)
		if typ, told := eval.Type(renamed(e, to), other); err == api.OK && (typ.Kind == 0 || told != api.OK) {
			t.Fatalf("%s is of %v, %d", show(e), typ, told)
		}
		same("other names", renamed(e, to), other, back)
		for k, f := range c.Fields {
			if !slices.Contains(used, f.Name) {
				vals[k] = g.vals()[k]
			}
		}
		same("other values", e, c, vals)
	}
}

// FuzzEval: P6.1, P6.2 of any text that is an expression, and any values.
func FuzzEval(f *testing.F) {
	f.Add("n+m*len(t&u)", 1, 2, "a", "é")
	f.Add(`if(find(t,u)<0,left(t,n),right(u,m))`, -1, most, "ab", "b")
	f.Fuzz(func(t *testing.T, s string, n, m int, a, b string) {
		e, _, err := expr.Parse(s)
		if err == api.OK {
			check(t, e, pair(), pairVals(n%(most+1), m%(most+1), a, b))
		}
	})
}

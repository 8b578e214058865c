package expr_test

import (
	"math/rand"
	"strings"
	"testing"
	"unsafe"

	"moraine/api"
	"moraine/expr"
)

// isNone says whether an answer is told beside an error: no tree.
func isNone(e api.Expr) bool {
	return e.Kind == 0 && e.N == 0 && e.S == "" && len(e.Kids) == 0
}

// checkParse holds what is parsed against the chapter's words.
func checkParse(t *testing.T, s string) {
	t.Helper()
	e, at, told := expr.Parse(s)
	d, place, err := plainParse(s)
	if !same(e, d) || at != place || told != err {
		t.Fatalf("%q: %+v, %d, %d, not %+v, %d, %d", s, e, at, told, d, place, err)
	}
	if told == api.OK {
		checkPrint(t, e)
	}
}

// P5.1: trees of some texts.
func TestParseExamples(t *testing.T) {
	a, b, c := field("a"), field("b"), field("c")
	for _, x := range []struct {
		s string
		e api.Expr
	}{
		{"a+b*2", op("+", a, op("*", b, num(2)))}, {"(a+b)*-c", op("*", op("+", a, b), ahead(c))}, {"left(name, 2)", call("left", field("name"), num(2))}, {`if(n>5,left(t,1),"")`, call("if", op(">", field("n"), num(5)), call("left", field("t"), num(1)), text(""))},
		{"0", num(0)}, {"007", num(7)}, {"1000000000000000", num(api.MaxNum)}, {strings.Repeat("0", 184) + "1000000000000000", num(api.MaxNum)}, {strings.Repeat("0", 200), num(0)}, {"-0", ahead(num(0))}, {"-1000000000000000", ahead(num(api.MaxNum))},
		{`""`, text("")}, {`"a\"b\\c"`, text(`a"b\c`)}, {`"\\"`, text(`\`)}, {`"\\\""`, text(`\"`)}, {`"é€𝄞  +"`, text("é€𝄞  +")}, {`"` + strings.Repeat(`\"`, 60) + `"`, text(strings.Repeat(`"`, 60))}, {`"a"&"b"`, op("&", text("a"), text("b"))}, {`"+"+"("`, op("+", text("+"), text("("))},
		{"a", a}, {strings.Repeat("a", 20), field(strings.Repeat("a", 20))}, {"len", field("len")}, {"if+min", op("+", field("if"), field("min"))}, {"len(len)", call("len", field("len"))}, {"len (a)", call("len", a)}, {"(len)", field("len")}, {"a_1", field("a_1")},
		{"a-b-c", op("-", op("-", a, b), c)}, {"a-(b-c)", op("-", a, op("-", b, c))}, {"a--b", op("-", a, ahead(b))}, {"--a", ahead(ahead(a))}, {"- - a", ahead(ahead(a))}, {"-a*b", op("*", ahead(a), b)}, {"-(a*b)", ahead(op("*", a, b))}, {"-len(a)", ahead(call("len", a))}, {"a/b*c%a", op("%", op("*", op("/", a, b), c), a)}, {"a+b-c", op("-", op("+", a, b), c)},
		{"a&b+c", op("&", a, op("+", b, c))}, {"a+b&c", op("&", op("+", a, b), c)}, {"a=b&c", op("=", a, op("&", b, c))}, {"a&b=c", op("=", op("&", a, b), c)}, {"a&b&c", op("&", op("&", a, b), c)}, {"a=b=c", op("=", op("=", a, b), c)}, {"a<b>=c", op(">=", op("<", a, b), c)}, {"a<>b", op("<>", a, b)}, {"a<=b", op("<=", a, b)}, {"a< -b", op("<", a, ahead(b))}, {"a<-b", op("<", a, ahead(b))}, {"a>b", op(">", a, b)},
		{" ( ( a ) ) ", a}, {"   1   ", num(1)}, {strings.Repeat(" ", 199) + "1", num(1)}, {strings.Repeat("(", 99) + "1" + strings.Repeat(")", 99), num(1)}, {"max(min(a,1),-b)", call("max", call("min", a, num(1)), ahead(b))}, {"if(a,b,c)=find(\"x\",from(a,1))", op("=", call("if", a, b, c), call("find", text("x"), call("from", a, num(1))))}, {"num(text(right(a,len(b))))", call("num", call("text", call("right", a, call("len", b))))},
	} {
		if e, at, told := expr.Parse(x.s); !same(e, x.e) || at != 0 || told != api.OK {
			t.Errorf("%q: %+v, %d, %d", x.s, e, at, told)
		}
		checkParse(t, x.s)
	}
}

// P5.1: the places of some faults.
func TestParseFaults(t *testing.T) {
	for _, x := range []struct {
		s  string
		at int
	}{
		{"left(a)", 6}, {"", 0}, {"   ", 3}, {"a +", 3}, {"a + ", 4}, {"(a", 2}, {"(a  ", 4}, {"len(", 4}, {"left(a,", 7}, {"left(a,b", 8}, {"-", 1}, {"if(1,2", 6}, {"a+-", 3},
		{"a b", 2}, {"1 2", 2}, {"1a", 1}, {`a"b"`, 1}, {`"a""b"`, 3}, {`len"("a)`, 3}, {`(a")"`, 2}, {`left(a","b)`, 6}, {`a "+" b`, 2}, {`"-"a`, 3}, {"a(b)", 1}, {"foo (", 4}, {"foo(1)+$", 7}, {"1(", 1}, {"(a)(b)", 3}, {"len(a)(b)", 6}, {"()", 1}, {"len()", 4}, {"len(a,b)", 5}, {"if(a,b)", 6}, {"if(a,b,c,d)", 8}, {"left(,a)", 5}, {"a)", 1}, {")", 0}, {"a,b", 1}, {"(a,b)", 2}, {",", 0}, {"left(a,b))", 9}, {"left((a,b)", 7},
		{"+a", 0}, {"*", 0}, {"a+*b", 2}, {"a==b", 2}, {"a=<b", 2}, {"a><b", 2}, {"a<>=b", 3}, {"a<==b", 3}, {"a=>b", 2}, {"a&&b", 2}, {"a+)", 2}, {"(+", 1}, {"-)", 1}, {"len(-)", 5}, {"a <> <= b", 5},
		{"$", 0}, {"a $", 2}, {"a$", 1}, {"a b $", 4}, {"a b c d #", 8}, {")(,A", 3}, {"left(a) !", 8}, {"a\tb", 1}, {"a\n", 1}, {"\xff", 0}, {"a+é", 2}, {"\u00a0a", 0}, {"a\x00", 1}, {"a.b", 1}, {"[1]", 0}, {"@7", 0}, {"a;b", 1}, {"a|b", 1}, {"a!=b", 1}, {"'a'", 0}, {"a\\b", 1},
		{"1000000000000001", 0}, {"a+1000000000000001", 2}, {"a b 10000000000000000", 4}, {"9223372036854775808", 0}, {"18446744073709551617", 0}, {strings.Repeat("9", 200), 0}, {strings.Repeat("0", 100) + "1000000000000001", 0},
		{"A", 0}, {"aB", 1}, {"_a", 0}, {"a _", 2}, {"9_", 1}, {"9a b", 1}, {strings.Repeat("a", 21), 0}, {"1+" + strings.Repeat("a", 21), 2}, {strings.Repeat("a", 20) + " a", 21}, {strings.Repeat("len", 7) + "(a)", 0},
		{`"`, 0}, {`"a`, 0}, {`a&"b`, 2}, {`a b "c`, 4}, {`"a\`, 0}, {`"a\"`, 0}, {`"\\\"`, 0}, {`"\a"`, 0}, {`"\n"`, 0}, {`a "\'"`, 2}, {`"\`, 0}, {"\"a\nb\"", 0}, {"\"\x7f\"", 0}, {"\"\xff\"", 0}, {"\"\xc3\"", 0}, {"\"\xed\xa0\x80\"", 0}, {`"` + strings.Repeat("x", 61) + `"`, 0}, {`"` + strings.Repeat(`\\`, 61) + `"`, 0}, {`"` + strings.Repeat("é", 30) + `x"`, 0}, {`"a"b"c"`, 3},
		{strings.Repeat(" ", 200), 200}, {strings.Repeat(" ", 201), 200}, {strings.Repeat("1", 201), 200}, {"$" + strings.Repeat(" ", 200), 200}, {"1" + strings.Repeat(" ", 200), 200}, {strings.Repeat("(", 200), 200}, {strings.Repeat("(", 201), 200}, {strings.Repeat("-", 200), 200}, {strings.Repeat("\xff", 1<<20), 200},
	} {
		e, at, told := expr.Parse(x.s)
		if !isNone(e) || at != x.at || told != api.ErrExpr {
			t.Errorf("%q: %+v, %d, %d, not %d", x.s, e, at, told, x.at)
		}
		checkParse(t, x.s)
	}
}

// P5.1: what is read, but too deep, or too large, for a tree.
func TestParseDeep(t *testing.T) {
	for _, x := range []struct {
		s    string
		deep bool
	}{
		{"-------a", false}, {"--------a", true}, {"1" + strings.Repeat("+1", 7), false}, {"1" + strings.Repeat("+1", 8), true}, {strings.Repeat("1+(", 7) + "1" + strings.Repeat(")", 7), false}, {strings.Repeat("1+(", 8) + "1" + strings.Repeat(")", 8), true}, {strings.Repeat("len(", 7) + "a" + strings.Repeat(")", 7), false}, {strings.Repeat("len(", 8) + "a" + strings.Repeat(")", 8), true}, {strings.Repeat("-", 199) + "a", true}, {strings.Repeat("a+", 99) + "a", true},
		{"-1+-1*-1&-(1=1)-(-(-1))", false}, {"-1+-1*-1&-(1=---1)-(-(-1))", false}, {"-1+-1*-1&-(1=----1)-(-(-1))", true},
	} {
		want := api.OK
		if x.deep {
			want = api.ErrDeep
		}
		if e, at, told := expr.Parse(x.s); at != 0 || told != want || isNone(e) != x.deep {
			t.Errorf("%q: %+v, %d, %d", x.s, e, at, told)
		}
		checkParse(t, x.s)
	}
	for n := 1; n < 64; n++ {
		s := strings.ReplaceAll(plainPrint(balanced(n)), " ", "")
		want := api.OK
		if n > 40 {
			want = api.ErrDeep
		}
		if e, at, told := expr.Parse(s); at != 0 || told != want || isNone(e) != (n > 40) {
			t.Errorf("%d nodes, %d bytes: %+v, %d, %d", n, len(s), e, at, told)
		}
		checkParse(t, s+")")
	}
	// What is none is told ahead of what is too deep.
	checkParse(t, "--------a)")
	checkParse(t, "--------a b")
	checkParse(t, "--------")
	checkParse(t, "--------a $")
}

// strands yields all lists of up to n of the parts, laid together.
func strands(parts []string, n int, yield func(string)) {
	var grow func(string, int)
	grow = func(s string, left int) {
		yield(s)
		if left > 0 {
			for _, part := range parts {
				grow(s+part, left-1)
			}
		}
	}
	grow("", n)
}

// bytesOf are all bytes from one to another one.
func bytesOf(first, last int) []string {
	var l []string
	for i := first; i <= last; i++ {
		l = append(l, string([]byte{byte(i)}))
	}
	return l
}

// P5.1: all texts of two bytes, by themselves, between quotes, and behind a name; all short ones of some bytes.
func TestParseAllBytes(t *testing.T) {
	strands(bytesOf(0, 255), 2, func(s string) {
		checkParse(t, s)
		checkParse(t, `"`+s+`"`)
		checkParse(t, "a"+s)
	})
	strands(strings.Split(` 09a_"\-<>=(),é`, ""), 4, func(s string) { checkParse(t, s) })
	strands([]string{"<", ">", "=", "-", "a", " "}, 6, func(s string) { checkParse(t, s) })
	strands([]string{`\`, `"`, "a", " "}, 7, func(s string) { checkParse(t, `"`+s) })
}

// P5.1: all lists of a few pieces, from the beginning on, and within calls.
func TestParseAllPieces(t *testing.T) {
	strands([]string{"1", "a", `"b"`, "len", "left", "if", "(", ")", ",", "-", "*", "&"}, 4, func(s string) { checkParse(t, s) })
	strands([]string{"1 ", "a ", "len ", "( ", ") ", ", ", "- ", "= "}, 5, func(s string) {
		checkParse(t, s)
		checkParse(t, "left("+s)
		checkParse(t, "a+if(1,"+s+")")
	})
	strands([]string{"len", "(", `"("`, ")", `")"`, "-", `"-"`}, 5, func(s string) { checkParse(t, s) })
	strands([]string{"a", "(", ")", ",", "-"}, 7, func(s string) { checkParse(t, s) })
	strands([]string{"(a", "len(a", "if(a", ",a", ")", "+a", "-"}, 6, func(s string) { checkParse(t, s) })
}

// P5.1: all expressions of a few operators, with brackets and without.
func TestParseOperators(t *testing.T) {
	for _, one := range operators() {
		for _, two := range operators() {
			for _, three := range operators() {
				checkParse(t, "a"+one+"b"+two+"c"+three+"d")
				checkParse(t, "a"+one+"(b"+two+"c)"+three+"-d")
				checkParse(t, "-(a"+one+"b)"+two+"(c"+three+"d)")
				checkParse(t, "len(a"+one+"b)"+two+"-max(a,c"+three+"d)")
			}
		}
	}
	for name, takes := range calls {
		for n := range 6 {
			checkParse(t, name+"("+strings.Repeat("a+1,", n)+"b)")
			_, at, told := expr.Parse(name + "(" + strings.Repeat("a,", n) + "b)")
			if want := len(name) + 1 + 2*min(n+1, takes) - 1; n+1 != takes && (at != want || told != api.ErrExpr) || n+1 == takes && (at != 0 || told != api.OK) {
				t.Errorf("%s of %d: %d, %d", name, n+1, at, told)
			}
		}
	}
}

// P5.1: names and texts, right and wrong.
func TestParseNamesAndTexts(t *testing.T) {
	for _, s := range append(rightNames(), wrongNames()...) {
		checkParse(t, s)
		checkParse(t, "1 + "+s+" +2")
		checkParse(t, s+"(a)")
	}
	for _, s := range append(rightTexts(), wrongTexts()...) {
		s = `"` + strings.NewReplacer(`"`, `\"`, `\`, `\\`).Replace(s) + `"`
		checkParse(t, s)
		checkParse(t, "a & "+s+"&b")
	}
	for n := range 70 {
		for _, c := range []string{"x", "é", `\"`, `\\`, "€"} {
			checkParse(t, `"`+strings.Repeat(c, n)+`"`)
			checkParse(t, `"`+strings.Repeat(c, n)+`x"`)
		}
		checkParse(t, strings.Repeat("z", n))
		checkParse(t, strings.Repeat("0", n)+"1000000000000000")
		checkParse(t, strings.Repeat("0", n)+"1000000000000001")
		checkParse(t, "1"+strings.Repeat("0", n))
		checkParse(t, strings.Repeat("9", n))
	}
}

// parts are pieces and what is none.
var parts = []string{"1", "12", "007", "1000000000000001", "a", "b_2", "len", "left", "right", "from", "find", "text", "num", "if", "min", "max", "(", ")", ",", "-", "+", "*", "/", "%", "&", "=", "<>", "<", "<=", ">", ">=", " ", "  ", `""`, `"a\"b"`, `"\\"`, `"`, `\`, "$", "A", "é", "\t", "(a)", "len(", "left(a,", "if(1,", ",b)", "+1", "-a", "&\"x\""}

// spoilt is a text with some of its parts turned.
func spoilt(r *rand.Rand, s string) string {
	for n := r.Intn(4); n > 0; n-- {
		i := r.Intn(len(s) + 1)
		k := min(len(s), i+r.Intn(3))
		s = s[:i] + parts[r.Intn(len(parts))] + s[k:]
	}
	return s
}

// P5.1: right trees' texts, with blanks and without, spoilt, and cut off; and random pieces.
func TestParseRandom(t *testing.T) {
	r := rand.New(rand.NewSource(51))
	for range 5000 {
		s := plainPrint(randomTree(r))
		if len(s) > 250 {
			continue
		}
		checkParse(t, s)
		checkParse(t, strings.ReplaceAll(s, " ", ""))
		checkParse(t, spoilt(r, s))
		checkParse(t, spoilt(r, s)[:r.Intn(len(s)+1)/2])
	}
	for range 15000 {
		var l []string
		for n := r.Intn(30); n > 0; n-- {
			l = append(l, parts[r.Intn(len(parts))])
		}
		checkParse(t, strings.Join(l, ""))
		checkParse(t, strings.Join(l[:len(l)/3], " "))
	}
}

// P5.1: each beginning of an expression tells its own end, or is one.
func TestParseBeginnings(t *testing.T) {
	for _, s := range []string{`if(a>=5 & "x",left(name, 2),-(b + 3)) <> max(1, (2))`, "len(from(a,find(b,text(num(c)))))", "((a))*-(-(b))"} {
		l, _ := plainPieces(s)
		for i, p := range l {
			for _, behind := range []string{"", " ", "   "} {
				u := s[:p.at] + behind
				if _, at, told := expr.Parse(u); told != api.OK && (at != len(u) || told != api.ErrExpr) {
					t.Errorf("%q, %d pieces: %d, %d", u, i, at, told)
				}
				checkParse(t, u)
			}
		}
	}
}

// within says whether a shares memory with b.
func within(a, b string) bool {
	first, at := uintptr(unsafe.Pointer(unsafe.StringData(b))), uintptr(unsafe.Pointer(unsafe.StringData(a)))
	return at >= first && at < first+uintptr(len(b))
}

// shares says whether a text in a tree shares memory with s.
func shares(e api.Expr, s string) bool {
	for _, kid := range e.Kids {
		if shares(kid, s) {
			return true
		}
	}
	return e.S != "" && within(e.S, s)
}

// fill lays another node into all lists of a tree, their spare room too.
func fill(e api.Expr) {
	for i, kid := range e.Kids {
		fill(kid)
		e.Kids[i] = api.Expr{Kind: -1}
	}
	for i := range e.Kids[:cap(e.Kids)] {
		e.Kids[:cap(e.Kids)][i] = api.Expr{Kind: -1}
	}
}

// R3: what is parsed is new memory; no two answers share any, nor do a tree's lists.
func TestParseMemory(t *testing.T) {
	s := strings.Clone(`if(len(name) > 20, left(name, -n) & "a\"b", from(name, max(n, 1)) & "c")`)
	e, _, _ := expr.Parse(s)
	d, _, _ := expr.Parse(s)
	if shares(e, s) {
		t.Error("a text shares memory with what it is read from")
	}
	was := clone(e)
	fill(d)
	if !same(e, was) {
		t.Error("two answers share memory")
	}
	for i := range was.Kids {
		e, _, _ := expr.Parse(s)
		fill(e.Kids[i])
		for k := range was.Kids {
			if i != k && !same(e.Kids[k], was.Kids[k]) {
				t.Errorf("Kids %d and %d share memory", i, k)
			}
		}
	}
}

// FuzzParse: P5.1, P5.3, P5.4 of any bytes.
func FuzzParse(f *testing.F) {
	r := rand.New(rand.NewSource(52))
	for range 50 {
		f.Add(plainPrint(randomTree(r)))
	}
	for _, part := range parts {
		f.Add(part)
	}
	f.Fuzz(func(t *testing.T, s string) { checkParse(t, s) })
}

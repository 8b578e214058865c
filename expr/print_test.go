package expr_test

import (
	"strings"
	"testing"

	"moraine/api"
	"moraine/expr"
)

// checkPrint holds a right tree's text against the chapter's words, and reads it again.
func checkPrint(t *testing.T, e api.Expr) {
	t.Helper()
	s, told := expr.Print(e)
	if want := plainPrint(e); s != want || told != api.OK || !expr.Right(e) {
		t.Fatalf("%+v: %q, %d, not %q", e, s, told, want)
	}
	d, at, err := expr.Parse(s)
	if len(s) <= 200 && (!expr.Same(d, e) || at != 0 || err != api.OK) || len(s) > 200 && (!isNone(d) || at != 200 || err != api.ErrExpr) {
		t.Fatalf("%q is read as %+v, %d, %d, not %+v", s, d, at, err, e)
	}
}

// P5.3: the chapter's examples, and their like.
func TestPrintExamples(t *testing.T) {
	a, b, c := field("a"), field("b"), field("c")
	for _, x := range []struct {
		e api.Expr
		s string
	}{
		{op("+", a, op("*", b, num(2))), "a + b * 2"}, {op("*", op("+", a, b), ahead(c)), "(a + b) * -c"},
		{num(0), "0"}, {num(api.MaxNum), "1000000000000000"}, {text(""), `""`}, {text(`a"b\c`), `"a\"b\\c"`}, {text("é (+"), `"é (+"`}, {field("len"), "len"}, {field("a_1"), "a_1"},
		{ahead(a), "-a"}, {ahead(num(0)), "-0"}, {ahead(ahead(a)), "--a"}, {ahead(text("")), `-""`}, {ahead(op("*", a, b)), "-(a * b)"}, {op("*", ahead(a), b), "-a * b"}, {ahead(call("len", a)), "-len(a)"}, {op("-", a, ahead(b)), "a - -b"}, {op("-", ahead(a), ahead(ahead(b))), "-a - --b"}, {ahead(ahead(op("=", a, b))), "--(a = b)"},
		{call("len", a), "len(a)"}, {call("left", a, num(2)), "left(a, 2)"}, {call("if", op("=", a, b), op("&", a, b), ahead(c)), "if(a = b, a & b, -c)"}, {op("*", call("min", op("+", a, b), c), b), "min(a + b, c) * b"},
		{op("-", op("-", a, b), c), "a - b - c"}, {op("-", a, op("-", b, c)), "a - (b - c)"}, {op("+", a, op("+", b, c)), "a + (b + c)"}, {op("-", op("+", a, b), c), "a + b - c"}, {op("+", a, op("-", b, c)), "a + (b - c)"}, {op("/", op("%", a, b), c), "a % b / c"}, {op("/", a, op("%", b, c)), "a / (b % c)"}, {op("&", op("&", a, b), c), "a & b & c"}, {op("&", a, op("&", b, c)), "a & (b & c)"},
		{op("=", op("=", a, b), c), "a = b = c"}, {op("<>", a, op(">=", b, c)), "a <> (b >= c)"}, {op("<", op("<=", a, b), c), "a <= b < c"}, {op("&", op("=", a, b), c), "(a = b) & c"}, {op("=", op("&", a, b), c), "a & b = c"}, {op(">", a, op("&", b, c)), "a > b & c"}, {op("+", op("&", a, b), c), "(a & b) + c"}, {op("&", op("+", a, b), c), "a + b & c"}, {op("*", a, op("+", b, c)), "a * (b + c)"}, {op("*", op("*", a, b), op("*", b, c)), "a * b * (b * c)"},
	} {
		if s, told := expr.Print(x.e); s != x.s || told != api.OK {
			t.Errorf("%+v: %q, %d", x.e, s, told)
		}
		checkPrint(t, x.e)
	}
}

// P5.3, P5.4: right trees have the text that the chapter tells, which is read as them; others have none.
func TestPrint(t *testing.T) {
	for _, e := range rightTrees() {
		checkPrint(t, e)
	}
	for _, e := range wrongTrees() {
		if s, told := expr.Print(e); s != "" || told != api.ErrExpr {
			t.Errorf("%+v: %q, %d", e, s, told)
		}
	}
}

// P5.4: a text of 200 bytes is read; one more is none. What is read without blanks may be printed longer than that.
func TestPrintLength(t *testing.T) {
	longest := text(strings.Repeat("x", 60))
	e := op("&", op("&", longest, longest), text("x"))
	for n := 1; n < 12; n++ {
		e.Kids[1].S = strings.Repeat(`"`, 26) + strings.Repeat("x", n)
		s, _ := expr.Print(e)
		if len(s) != 184+n {
			t.Fatalf("%d bytes", len(s))
		}
		checkPrint(t, e)
	}
	big := call("find", op("&", op("&", longest, longest), longest), op("&", op("&", longest, longest), longest))
	checkPrint(t, big)
	s, _ := expr.Print(big)
	if len(s) != 5+6*62+4*3+2+1 {
		t.Errorf("%d bytes", len(s))
	}
	for n := 1; n < 30; n++ {
		name := strings.Repeat("n", n/2+1)
		checkParse(t, "(("+name+"+"+name+")*("+name+"+"+name+"))-(("+name+"+"+name+")*("+name+"+"+name+"))")
	}
}

// R3: a text that is answered is new memory.
func TestPrintMemory(t *testing.T) {
	for _, e := range rightTrees() {
		s, _ := expr.Print(e)
		if shares(e, s) {
			t.Errorf("%q shares memory with what it is the text of", s)
		}
		if len(e.Kids) == 0 && e.S != "" && within(s, e.S) {
			t.Errorf("%q is what was handed in", s)
		}
	}
}

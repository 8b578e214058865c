package eval_test

import (
	"math/big"
	"regexp"
	"slices"
	"strings"
	"unicode/utf8"

	"moraine/api"
	"moraine/class"
	"moraine/expr"
)

// What is here is made by the chapter's words alone, in other ways than the program: numbers are of any size, texts are lists of signs, and which parts are taken is a table of letters.

// takes is what each operator between two takes, and what it is of; likewise each call. A Num is an n, a Text a t.
var takes = map[string]string{
	"+": "nn>n", "-": "nn>n", "*": "nn>n", "/": "nn>n", "%": "nn>n", "&": "tt>t",
	"=": "nn>n tt>n", "<>": "nn>n tt>n", "<": "nn>n tt>n", "<=": "nn>n tt>n", ">": "nn>n tt>n", ">=": "nn>n tt>n",
	"len": "t>n", "left": "tn>t", "right": "tn>t", "from": "tn>t", "find": "tt>n", "text": "n>t", "num": "t>n", "if": "nnn>n ntt>t", "min": "nn>n", "max": "nn>n",
}

// operators and callNames are the chapter's, in its order.
var (
	operators = strings.Fields("+ - * / % = <> < <= > >= &")
	callNames = strings.Fields("len left right from find text num if min max")
)

// letterOf is the letter of a type, ? of one that nothing takes.
func letterOf(t api.Type) string {
	switch t {
	case api.Type{Kind: 1}:
		return "n"
	case api.Type{Kind: 2}:
		return "t"
	}
	return "?"
}

// plainTypeOf is the type of a right tree, if it has one.
func plainTypeOf(e api.Expr, c api.Class) (api.Type, bool) {
	parts := ""
	for _, kid := range e.Kids {
		t, ok := plainTypeOf(kid, c)
		if !ok {
			return api.Type{}, false
		}
		parts += letterOf(t)
	}
	row := takes[e.S]
	switch e.Kind {
	case api.ENum:
		row = ">n"
	case api.EText:
		row = ">t"
	case api.EAhead:
		row = "n>n"
	case api.EField:
		for _, f := range c.Fields {
			if f.Name == e.S {
				return f.Type, true
			}
		}
		return api.Type{}, false
	}
	for _, form := range strings.Fields(row) {
		if what, ok := strings.CutPrefix(form, parts+">"); ok {
			return api.Type{Kind: map[string]int{"n": 1, "t": 2}[what]}, true
		}
	}
	return api.Type{}, false
}

// plainType is what Type tells.
func plainType(e api.Expr, c api.Class) (api.Type, api.Errno) {
	if !expr.Right(e) {
		return api.Type{}, 50
	}
	if !class.Right(c) {
		return api.Type{}, 40
	}
	t, ok := plainTypeOf(e, c)
	if !ok {
		return api.Type{}, 60
	}
	return t, 0
}

// plainEval is what Eval tells.
func plainEval(e api.Expr, c api.Class, vals []api.Val) (api.Val, api.Errno) {
	if _, err := plainType(e, c); err != 0 {
		return api.Val{}, err
	}
	if _, err := class.Check(c, vals); err != 0 {
		return api.Val{}, err
	}
	fields := map[string]api.Val{}
	for i, f := range c.Fields {
		fields[f.Name] = vals[i]
	}
	return plainWorth(e, fields), 0
}

// plainNum is a number of any size, cut; plainText are signs, cut.
func plainNum(n *big.Int) api.Val {
	most, least := big.NewInt(1e15), big.NewInt(-1e15)
	if n.Cmp(most) > 0 {
		n = most
	}
	if n.Cmp(least) < 0 {
		n = least
	}
	return api.Val{Kind: 1, N: int(n.Int64())}
}

func plainText(signs []rune) api.Val {
	for len(string(signs)) > 60 {
		signs = signs[:len(signs)-1]
	}
	return api.Val{Kind: 2, S: string(signs)}
}

func plainInt(n int) api.Val { return plainNum(big.NewInt(int64(n))) }

// plainTruth is what a comparison is worth.
func plainTruth(so bool) api.Val {
	return plainInt(map[bool]int{true: 1}[so])
}

// part are the signs of t from a place on up to another one, as far as there are such places.
func part(t []rune, from, to int) api.Val {
	from, to = min(max(from, 0), len(t)), min(max(to, 0), len(t))
	return plainText(t[from:max(from, to)])
}

// signsAhead is at which sign of t the first u stands.
func signsAhead(t, u []rune) int {
	for i := 0; i+len(u) <= len(t); i++ {
		if slices.Equal(t[i:i+len(u)], u) {
			return i
		}
	}
	return -1
}

var numberForm = regexp.MustCompile(`\A(0|-?[1-9][0-9]{0,14}|-?10{15})\z`)

// plainTold is the number that is written so.
func plainTold(s string) api.Val {
	if !numberForm.MatchString(s) {
		return plainInt(0)
	}
	n, _ := new(big.Int).SetString(s, 10)
	return plainNum(n)
}

// plainWorth is what a tree is worth that has a type.
func plainWorth(e api.Expr, fields map[string]api.Val) api.Val {
	var v [3]api.Val
	var n [3]*big.Int
	var t [3][]rune
	for i, kid := range e.Kids {
		v[i] = plainWorth(kid, fields)
		n[i], t[i] = big.NewInt(int64(v[i].N)), []rune(v[i].S)
	}
	switch e.Kind {
	case api.ENum:
		return plainInt(e.N)
	case api.EText:
		return plainText([]rune(e.S))
	case api.EField:
		return fields[e.S]
	case api.EAhead:
		return plainNum(n[0].Neg(n[0]))
	case api.EOp:
		return plainOp(e.S, v, n)
	}
	i := max(min(v[1].N, 100), -100) // no text has more signs
	switch e.S {
	case "len":
		return plainInt(utf8.RuneCountInString(v[0].S))
	case "left":
		return part(t[0], 0, i)
	case "right":
		return part(t[0], min(len(t[0])-i, len(t[0])), len(t[0]))
	case "from":
		return part(t[0], i, len(t[0]))
	case "find":
		return plainInt(signsAhead(t[0], t[1]))
	case "text":
		return api.Val{Kind: 2, S: n[0].String()}
	case "num":
		return plainTold(v[0].S)
	case "if":
		if v[0].N == 0 {
			return v[2]
		}
		return v[1]
	}
	if less := n[0].Cmp(n[1]) < 0; less == (e.S == "min") {
		return v[0]
	}
	return v[1]
}

// plainOp is what an operator between two is worth.
func plainOp(sign string, v [3]api.Val, n [3]*big.Int) api.Val {
	a, b, c := n[0], n[1], new(big.Int)
	order := a.Cmp(b)
	if v[0].Kind == 2 {
		order = strings.Compare(v[0].S, v[1].S)
	}
	switch sign {
	case "+":
		return plainNum(c.Add(a, b))
	case "-":
		return plainNum(c.Sub(a, b))
	case "*":
		return plainNum(c.Mul(a, b))
	case "&":
		return plainText([]rune(v[0].S + v[1].S))
	case "=":
		return plainTruth(order == 0)
	case "<>":
		return plainTruth(order != 0)
	case "<":
		return plainTruth(order < 0)
	case "<=":
		return plainTruth(order <= 0)
	case ">":
		return plainTruth(order > 0)
	case ">=":
		return plainTruth(order >= 0)
	}
	if b.Sign() == 0 {
		return plainInt(0)
	}
	whole, left := c.QuoRem(a, b, new(big.Int))
	if sign == "/" {
		return plainNum(whole)
	}
	return plainNum(left)
}

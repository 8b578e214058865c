package expr_test

import (
	"regexp"
	"slices"
	"strconv"
	"strings"
	"unicode/utf8"

	"moraine/api"
)

// What is here is made by the chapter's words alone, in other ways than the program: a text is parted at operators, not read from the front.

var (
	pieceForm = regexp.MustCompile(`^(?:[0-9]+|[a-z][a-z0-9_]*|"(?:[^"\\]|\\["\\])*"|<>|<=|>=|[=<>&+\-*/%(),])`)
	nameForm  = regexp.MustCompile(`\A[a-z][a-z0-9_]{0,19}\z`)
	calls     = map[string]int{"len": 1, "left": 2, "right": 2, "from": 2, "find": 2, "text": 1, "num": 1, "if": 3, "min": 2, "max": 2}
	levels    = []string{" = <> < <= > >= ", " & ", " + - ", " * / % "}
)

// plainText says whether s is a text as DOC.md has them, of at most 60 bytes.
func plainText(s string) bool {
	return len(s) <= 60 && utf8.ValidString(s) && !strings.ContainsFunc(s, func(c rune) bool { return c < 0x20 || c == 0x7f })
}

// plainPiece is a piece: its bytes, its place.
type plainPiece struct {
	s  string
	at int
}

// isOperator says whether a piece is the sign of an operator between two.
func (p plainPiece) isOperator() bool {
	return strings.Contains(strings.Join(levels, ""), " "+p.s+" ")
}

// unquote is what stands between a text's quotes.
func unquote(s string) string {
	return strings.NewReplacer(`\"`, `"`, `\\`, `\`).Replace(s[1 : len(s)-1])
}

// plainPieces are a text's pieces, or the place from which none can be read.
func plainPieces(s string) ([]plainPiece, int) {
	var l []plainPiece
	for at := 0; ; {
		for at < len(s) && s[at] == ' ' {
			at++
		}
		if at == len(s) {
			return l, -1
		}
		u := pieceForm.FindString(s[at:])
		right := u != ""
		if right && u[0] >= '0' && u[0] <= '9' {
			value := strings.TrimLeft(u, "0")
			right = len(value) < 16 || value == "1000000000000000"
		} else if right && u[0] >= 'a' && u[0] <= 'z' {
			right = nameForm.MatchString(u)
		} else if right && u[0] == '"' {
			right = plainText(unquote(u))
		}
		if !right {
			return l, at
		}
		l = append(l, plainPiece{u, at})
		at += len(u)
	}
}

// isName says whether a piece is a name, isTight whether it is an expression by itself.
func (p plainPiece) isName() bool { return nameForm.MatchString(p.s) }
func (p plainPiece) isTight() bool {
	return p.isName() || p.s[0] == '"' || p.s[0] >= '0' && p.s[0] <= '9'
}

// begins says whether pieces are the beginning of an expression, and whether they are one.
func begins(l []plainPiece) (bool, bool) {
	var open []int // of each bracket that is open, how many `,` must still come
	needs := true  // what is needed next is tight
	for i, p := range l {
		last := len(open) - 1
		switch {
		case needs && p.isTight():
			needs = false
		case needs && p.s == "-":
		case needs && p.s == "(":
			open = append(open, 0)
		case !needs && p.s == "(" && calls[l[i-1].s] > 0:
			open = append(open, calls[l[i-1].s]-1)
			needs = true
		case !needs && p.isOperator():
			needs = true
		case !needs && p.s == "," && last >= 0 && open[last] > 0:
			open[last]--
			needs = true
		case !needs && p.s == ")" && last >= 0 && open[last] == 0:
			open = open[:last]
		default:
			return false, false
		}
	}
	return true, !needs && len(open) == 0
}

// plainTree is the tree of pieces, if they are an expression: level tells which operators it may be parted at, all those that bind more among them.
func plainTree(l []plainPiece, level int) (api.Expr, bool) {
	if level == len(levels) {
		return plainTight(l)
	}
	depth := 0
	for i := len(l) - 1; i > 0; i-- {
		depth += strings.Count(")", l[i].s) - strings.Count("(", l[i].s)
		between := l[i-1].isTight() || l[i-1].s == ")"
		if depth != 0 || !between || !strings.Contains(levels[level], " "+l[i].s+" ") {
			continue
		}
		a, ok := plainTree(l[:i], level)
		b, fine := plainTree(l[i+1:], level+1)
		if ok && fine {
			return op(l[i].s, a, b), true
		}
	}
	return plainTree(l, level+1)
}

// plainTight is the tree of pieces that are one tight expression.
func plainTight(l []plainPiece) (api.Expr, bool) {
	switch {
	case len(l) == 0:
		return api.Expr{}, false
	case l[0].s == "-":
		e, ok := plainTight(l[1:])
		return ahead(e), ok
	case l[0].s == "(" && l[len(l)-1].s == ")":
		return plainTree(l[1:len(l)-1], 0)
	case len(l) > 3 && l[1].s == "(" && l[len(l)-1].s == ")" && calls[l[0].s] > 0:
		kids, ok := plainParts(l[2 : len(l)-1])
		return call(l[0].s, kids...), ok && len(kids) == calls[l[0].s]
	case len(l) > 1 || !l[0].isTight():
		return api.Expr{}, false
	case l[0].isName():
		return field(l[0].s), true
	case l[0].s[0] == '"':
		return text(unquote(l[0].s)), true
	}
	n, err := strconv.Atoi(l[0].s)
	return num(n), err == nil
}

// plainParts are the trees of expressions with `,` between them.
func plainParts(l []plainPiece) ([]api.Expr, bool) {
	depth := 0
	for i, p := range l {
		depth += strings.Count("(", p.s) - strings.Count(")", p.s)
		if depth == 0 && p.s == "," {
			e, ok := plainTree(l[:i], 0)
			rest, fine := plainParts(l[i+1:])
			return append([]api.Expr{e}, rest...), ok && fine
		}
	}
	e, ok := plainTree(l, 0)
	return []api.Expr{e}, ok
}

// plainParse is what Parse tells by P5.1, plainRead that of a text of any length.
func plainParse(s string) (api.Expr, int, api.Errno) {
	if len(s) > 200 {
		return api.Expr{}, 200, api.ErrExpr
	}
	return plainRead(s)
}

func plainRead(s string) (api.Expr, int, api.Errno) {
	l, bad := plainPieces(s)
	if bad >= 0 {
		return api.Expr{}, bad, api.ErrExpr
	}
	for i := range l {
		if ok, _ := begins(l[:i+1]); !ok {
			return api.Expr{}, l[i].at, api.ErrExpr
		}
	}
	e, ok := plainTree(l, 0)
	if _, whole := begins(l); whole != ok {
		panic("two minds about " + s)
	}
	if !ok {
		return api.Expr{}, len(s), api.ErrExpr
	}
	if !plainRight(e) {
		return api.Expr{}, 0, api.ErrDeep
	}
	return e, 0, api.OK
}

// plainRight is which trees are right, by the chapter's words.
func plainRight(e api.Expr) bool {
	return rightParts(e) && depth(e) <= 8 && nodes(e) <= 40
}

func rightParts(e api.Expr) bool {
	var right bool
	switch e.Kind {
	case 1:
		right = e.N >= 0 && e.N <= 1e15 && e.S == "" && len(e.Kids) == 0
	case 2:
		right = e.N == 0 && plainText(e.S) && len(e.Kids) == 0
	case 3:
		right = e.N == 0 && nameForm.MatchString(e.S) && len(e.Kids) == 0
	case 4:
		right = e.N == 0 && slices.Contains(operators(), e.S) && len(e.Kids) == 2
	case 5:
		right = e.N == 0 && e.S == "-" && len(e.Kids) == 1
	case 6:
		right = e.N == 0 && calls[e.S] > 0 && len(e.Kids) == calls[e.S]
	}
	return right && !slices.ContainsFunc(e.Kids, func(kid api.Expr) bool { return !rightParts(kid) })
}

// operators are the signs of all operators between two.
func operators() []string { return strings.Fields(strings.Join(levels, "")) }

// depth is how many nodes stand within one another at most, nodes how many there are.
func depth(e api.Expr) int {
	most := 0
	for _, kid := range e.Kids {
		most = max(most, depth(kid))
	}
	return most + 1
}

func nodes(e api.Expr) int {
	n := 1
	for _, kid := range e.Kids {
		n += nodes(kid)
	}
	return n
}

// plainPrint is a right tree's text by P5.3: whether a Kid stands between brackets is found by reading what stands there without them.
func plainPrint(e api.Expr) string {
	switch e.Kind {
	case api.ENum:
		return strconv.Itoa(e.N)
	case api.EText:
		return `"` + strings.NewReplacer(`"`, `\"`, `\`, `\\`).Replace(e.S) + `"`
	case api.EField:
		return e.S
	case api.ECall:
		var l []string
		for _, kid := range e.Kids {
			l = append(l, plainPrint(kid))
		}
		return e.S + "(" + strings.Join(l, ", ") + ")"
	case api.EAhead:
		s := plainPrint(e.Kids[0])
		return "-" + bracketed(s, "-"+s, e)
	}
	a, b := plainPrint(e.Kids[0]), plainPrint(e.Kids[1])
	sign := " " + e.S + " "
	return bracketed(a, a+sign+"("+b+")", e) + sign + bracketed(b, "("+a+")"+sign+b, e)
}

// bracketed is s, or s between brackets, if without them another tree than e is read.
func bracketed(s, without string, e api.Expr) string {
	l, _ := plainPieces(without)
	if d, ok := plainTree(l, 0); ok && same(d, e) {
		return s
	}
	return "(" + s + ")"
}

// same says whether two trees are the same, part by part.
func same(a, b api.Expr) bool {
	if a.Kind != b.Kind || a.N != b.N || a.S != b.S || len(a.Kids) != len(b.Kids) {
		return false
	}
	for i := range a.Kids {
		if !same(a.Kids[i], b.Kids[i]) {
			return false
		}
	}
	return true
}

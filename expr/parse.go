package expr

import "moraine/api"

// fault is what a parser panics with: what is told, and where.
type fault struct {
	told api.Errno
	at   int
}

// wrong tells that with a piece there is no expression.
func (p piece) wrong() {
	panic(fault{api.ErrExpr, p.at})
}

// Parse is the tree of an expression, or, beside ErrExpr, the place where the text is none.
func Parse(s string) (e api.Expr, at int, told api.Errno) {
	defer func() {
		if f, ok := recover().(fault); ok {
			e, at, told = api.Expr{}, f.at, f.told
		}
	}()
	if len(s) > api.MaxInput {
		panic(fault{api.ErrExpr, api.MaxInput})
	}
	p := parser{newLine(s), newGrammar()}
	e = p.whole()
	if !Right(e) {
		panic(fault{api.ErrDeep, 0})
	}
	return e, 0, api.OK
}

// line are the pieces that are still to be read, the end the last one.
type line struct {
	pieces []piece
}

// newLine reads all pieces ahead of the parser, as what is no piece is told ahead of what is no expression.
func newLine(s string) line {
	var l []piece
	for p := range pieces(s) {
		if p.kind == noPiece {
			p.wrong()
		}
		l = append(l, p)
	}
	return line{l}
}

// here is the next piece.
func (l *line) here() piece {
	return l.pieces[0]
}

// next is the next piece, which it goes behind.
func (l *line) next() piece {
	p := l.here()
	l.pieces = l.pieces[1:]
	return p
}

// need goes behind the next piece, which is that sign, or wrong.
func (l *line) need(sign string) {
	if p := l.next(); !p.is(sign) {
		p.wrong()
	}
}

// parser reads expressions. Behind a piece that is wrong nothing is read.
type parser struct {
	line
	grammar
}

// whole reads an expression behind which nothing stands.
func (p *parser) whole() api.Expr {
	e := p.expression(loosest)
	if p.here().kind != endPiece {
		p.here().wrong()
	}
	return e
}

// expression reads as far as operators bind so much, or more.
func (p *parser) expression(least int) api.Expr {
	e := p.tight()
	for {
		sign, bind := p.operator()
		if bind < least {
			return e
		}
		p.next()
		// What binds alike behind it is not its own: the left one is first.
		e = api.Expr{Kind: api.EOp, S: sign, Kids: []api.Expr{e, p.expression(bind + 1)}}
	}
}

// operator is the next piece's sign, and how much that binds: 0, if it is no operator.
func (p *parser) operator() (string, int) {
	here := p.here()
	if here.kind != signPiece {
		return "", 0
	}
	return here.s, p.binds[here.s]
}

// tight reads what no operator stands in, but between brackets.
func (p *parser) tight() api.Expr {
	var e api.Expr
	switch here := p.next(); {
	case here.kind == numberPiece:
		e = api.Expr{Kind: api.ENum, N: here.n}
	case here.kind == textPiece:
		e = api.Expr{Kind: api.EText, S: here.s}
	case here.kind == namePiece && p.here().is("("):
		e = p.call(here.s)
	case here.kind == namePiece:
		e = api.Expr{Kind: api.EField, S: here.s}
	case here.is("("):
		e = p.expression(loosest)
		p.need(")")
	case here.is("-"):
		e = api.Expr{Kind: api.EAhead, S: here.s, Kids: []api.Expr{p.tight()}}
	default:
		here.wrong()
	}
	return e
}

// call reads what stands behind a call's name, from the `(` on.
func (p *parser) call(name string) api.Expr {
	takes := p.takes[name]
	if takes == 0 {
		p.here().wrong()
	}
	e := api.Expr{Kind: api.ECall, S: name}
	p.need("(")
	for i := range takes {
		if i > 0 {
			p.need(",")
		}
		e.Kids = append(e.Kids, p.expression(loosest))
	}
	p.need(")")
	return e
}

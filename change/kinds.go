package change

import (
	"slices"

	"moraine/api"
	"moraine/class"
	"moraine/eval"
	"moraine/expr"
	"moraine/fresh"
	"moraine/val"
)

// kind is what changes of a kind need, and what they do: the parts of the class behind one, and whether it may be made, as far as those do not say it.
type kind struct {
	need
	do func() ([]part, bool)
}

// part is a field of the class behind a change, and what tells its value by the values ahead of it.
type part struct {
	field api.Field
	value func(vals []api.Val) api.Val
}

// step is a change that is to be made of a class; at is the place of its Field there, if that is found.
type step struct {
	class  api.Class
	change api.Change
	at     int
	found  bool
}

func newStep(c api.Class, ch api.Change) step {
	at, found := class.Field(c, ch.Field)
	return step{c, ch, at, found}
}

// kinds are all kinds of changes.
func (s step) kinds() map[int]kind {
	return map[int]kind{
		api.ChAdd:    {need{name: true, typed: true}, s.add},
		api.ChDrop:   {need{field: true}, s.drop},
		api.ChRename: {need{field: true, name: true}, s.rename},
		api.ChTurn:   {need{field: true, typed: true}, s.turn},
		api.ChSplit:  {need{field: true, name: true, typed: true, more: true}, s.split},
		api.ChIndex:  {need{field: true}, s.index},
	}
}

// behind are the parts of the class behind the change, if that is right. How many fields there may be, that no two have one name, and which ones may be indexed, is class's to say of what they make.
func (s step) behind() ([]part, bool) {
	k, ok := s.kinds()[s.change.Kind]
	if !ok || !k.met(s.change) || k.field && !s.found || !class.Right(s.class) {
		return nil, false
	}
	parts, ok := k.do()
	if !ok || !class.Right(whole(s.class.Name, parts)) {
		return nil, false
	}
	return parts, true
}

func (s step) add() ([]part, bool) {
	p, ok := s.made(s.change.Name, s.change.Expr)
	return append(s.parts(), p), ok
}

func (s step) drop() ([]part, bool) {
	return s.instead(), true
}

func (s step) rename() ([]part, bool) {
	p := s.parts()[s.at]
	p.field.Name = s.change.Name
	return s.instead(p), s.change.Name != s.change.Field // its own name is one that the class has
}

func (s step) turn() ([]part, bool) {
	p, ok := s.made(s.change.Field, s.change.Expr)
	return s.instead(p), ok
}

func (s step) split() ([]part, bool) {
	p, ok := s.made(s.change.Name, s.change.Expr)
	more, too := s.made(s.change.More, s.change.Other)
	return s.instead(p, more), ok && too
}

func (s step) index() ([]part, bool) {
	p := s.parts()[s.at]
	p.field.Indexed = !p.field.Indexed
	return s.instead(p), true
}

// parts are those of the class as it is.
func (s step) parts() []part {
	var l []part
	for i, f := range s.class.Fields {
		l = append(l, part{f, func(vals []api.Val) api.Val { return fresh.Val(vals[i]) }})
	}
	return l
}

// instead are the class's parts, with others in the stead of the change's Field.
func (s step) instead(others ...part) []part {
	return slices.Replace(s.parts(), s.at, s.at+1, others...)
}

// made is a part of the change's Type, if an expression tells values of it.
func (s step) made(name, text string) (part, bool) {
	value, ok := s.told(text)
	return part{api.Field{Name: name, Type: s.change.Type}, value}, ok
}

// told is what an expression tells by the class's values, if that is of the change's Type.
func (s step) told(text string) (func(vals []api.Val) api.Val, bool) {
	if text == "" {
		return func([]api.Val) api.Val { return val.Zero(s.change.Type) }, true
	}
	e, _, _ := expr.Parse(text) // the change is well formed
	t, err := eval.Type(e, s.class)
	value := func(vals []api.Val) api.Val {
		v, _ := eval.Eval(e, s.class, vals)
		return v
	}
	return value, err == api.OK && t == s.change.Type
}

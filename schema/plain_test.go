package schema_test

import (
	"moraine/api"
	"moraine/change"
	"moraine/class"
)

// What is here is made by the chapter's words, in another way than the program: all classes of a line are laid out at once, and each condition stands by itself.

// plainClasses are a line's classes of all its versions; none, if it is not right.
func plainClasses(l api.Line) []api.Class {
	if !class.Right(l.First) || len(l.Changes) > 12 {
		return nil
	}
	all := []api.Class{l.First}
	for i, ch := range l.Changes {
		c, err := change.Apply(all[i], ch)
		if err != 0 {
			return nil
		}
		all = append(all, c)
	}
	return all
}

// plainCheck is what Check tells.
func plainCheck(s api.Schema) (int, api.Errno) {
	if len(s.Lines) > 8 {
		return 8, 80
	}
	names := map[string]bool{}
	for i, l := range s.Lines {
		if names[l.First.Name] || plainClasses(l) == nil {
			return i, 80
		}
		names[l.First.Name] = true
	}
	return 0, 0
}

// plainLine are the classes of a line, if there is such a one in a right schema.
func plainLine(s api.Schema, number int) ([]api.Class, api.Errno) {
	if _, err := plainCheck(s); err != 0 {
		return nil, err
	}
	for i, l := range s.Lines {
		if i == number {
			return plainClasses(l), 0
		}
	}
	return nil, 2
}

// plainFind is what Find tells.
func plainFind(s api.Schema, name string) (int, bool) {
	for i, l := range s.Lines {
		if l.First.Name == name {
			return i, true
		}
	}
	return 0, false
}

// plainLast is what Last tells.
func plainLast(s api.Schema, number int) (int, api.Errno) {
	all, err := plainLine(s, number)
	if err != 0 {
		return 0, err
	}
	return len(all) - 1, 0
}

// plainAt is what At tells.
func plainAt(s api.Schema, number, ver int) (api.Class, api.Errno) {
	all, err := plainLine(s, number)
	if err != 0 {
		return api.Class{}, err
	}
	for v, c := range all {
		if v == ver {
			return c, 0
		}
	}
	return api.Class{}, 81
}

// plainAdd is what Add tells.
func plainAdd(s api.Schema, c api.Class) (api.Schema, api.Errno) {
	_, err := plainCheck(s)
	_, taken := plainFind(s, c.Name)
	switch {
	case err != 0:
		return api.Schema{}, err
	case !class.Right(c):
		return api.Schema{}, 40
	case taken, len(s.Lines) == 8:
		return api.Schema{}, 80
	}
	return api.Schema{Lines: append(s.Lines[:len(s.Lines):len(s.Lines)], api.Line{First: c})}, 0
}

// plainTurn is what Turn tells.
func plainTurn(s api.Schema, number int, ch api.Change) (api.Schema, api.Errno) {
	all, err := plainLine(s, number)
	if err != 0 {
		return api.Schema{}, err
	}
	if len(all) == 13 {
		return api.Schema{}, 81
	}
	if _, err := change.Apply(all[len(all)-1], ch); err != 0 {
		return api.Schema{}, err
	}
	var told api.Schema
	for i, l := range s.Lines {
		if i == number {
			l.Changes = append(l.Changes[:len(l.Changes):len(l.Changes)], ch)
		}
		told.Lines = append(told.Lines, l)
	}
	return told, 0
}

// plainCarry is what Carry tells.
func plainCarry(s api.Schema, number, from, to int, vals []api.Val) ([]api.Val, api.Errno) {
	all, err := plainLine(s, number)
	if err != 0 {
		return nil, err
	}
	if from < 0 || from > len(all)-1 || to < 0 || to > len(all)-1 || from > to {
		return nil, 81
	}
	if _, err := class.Check(all[from], vals); err != 0 {
		return nil, err
	}
	for v := from; v < to; v++ {
		vals, _ = change.Vals(all[v], s.Lines[number].Changes[v], vals)
	}
	return vals, 0
}

// Package fresh copies what was handed in, so that an answer shares no memory with it.
package fresh

import (
	"strings"

	"moraine/api"
)

// Val is a value in memory of its own: its text, its list, and what stands in that.
func Val(v api.Val) api.Val {
	return api.Val{Kind: v.Kind, N: v.N, S: strings.Clone(v.S), L: Vals(v.L)}
}

// Vals are values in memory of their own.
func Vals(l []api.Val) []api.Val {
	return each(l, Val)
}

// Class is a class in memory of its own, its fields' names, too.
func Class(c api.Class) api.Class {
	return api.Class{Name: strings.Clone(c.Name), Fields: each(c.Fields, field)}
}

func field(f api.Field) api.Field {
	f.Name = strings.Clone(f.Name)
	return f
}

// Change is a change in memory of its own: all its texts.
func Change(ch api.Change) api.Change {
	for _, s := range []*string{&ch.Field, &ch.Name, &ch.More, &ch.Expr, &ch.Other} {
		*s = strings.Clone(*s)
	}
	return ch
}

// Schema is a schema in memory of its own: its lines, and their classes and changes.
func Schema(s api.Schema) api.Schema {
	return api.Schema{Lines: each(s.Lines, line)}
}

func line(l api.Line) api.Line {
	return api.Line{First: Class(l.First), Changes: each(l.Changes, Change)}
}

// each are the copies of a list's items, in a list of their own without spare room.
func each[T any](l []T, one func(T) T) []T {
	if len(l) == 0 {
		return nil
	}
	f := make([]T, len(l))
	for i, item := range l {
		f[i] = one(item)
	}
	return f
}

package schema

import (
	"iter"

	"moraine/api"
	"moraine/change"
	"moraine/class"
	"moraine/fresh"
)

// line is a schema's line of a number, if the schema is right and has it.
func line(s api.Schema, number int) (api.Line, api.Errno) {
	if _, err := Check(s); err != api.OK {
		return api.Line{}, err
	}
	if number < 0 || number >= len(s.Lines) {
		return api.Line{}, api.ErrArg
	}
	return s.Lines[number], api.OK
}

// isRight says whether a line is right: there is a class of each of its versions.
func isRight(l api.Line) bool {
	if len(l.Changes) > api.MaxChanges {
		return false
	}
	made := 0
	for range versions(l) {
		made++
	}
	return made > len(l.Changes)
}

// versions are a line's versions and their classes, as far as they are right: none, if its first class is not, and none behind a change that tells an error.
func versions(l api.Line) iter.Seq2[int, api.Class] {
	return func(yield func(int, api.Class) bool) {
		c, ok := l.First, class.Right(l.First)
		for ver := 0; ok && yield(ver, c) && ver < len(l.Changes); ver++ {
			next, err := change.Apply(c, l.Changes[ver])
			c, ok = next, err == api.OK
		}
	}
}

func hasVersion(l api.Line, ver int) bool {
	return ver >= 0 && ver <= len(l.Changes)
}

// classOf is a right line's class of a version that it has.
func classOf(l api.Line, ver int) api.Class {
	for v, c := range versions(l) {
		if v == ver {
			return c
		}
	}
	return api.Class{}
}

// carried are the values of a right line's version to by those of its version from, if they fit that.
func carried(l api.Line, from, to int, vals []api.Val) ([]api.Val, api.Errno) {
	if _, err := class.Check(classOf(l, from), vals); err != api.OK {
		return nil, err
	}
	now := fresh.Vals(vals)
	carry := func(c api.Class, ch api.Change) {
		now, _ = change.Vals(c, ch, now) // what fits is carried by what is right
	}
	for ver, c := range versions(l) {
		if ver == to {
			break
		}
		if ver >= from {
			carry(c, l.Changes[ver])
		}
	}
	return now, api.OK
}

package schema_test

import (
	"testing"

	"moraine/api"
	"moraine/schema"
)

// failing is a call of each function at one thing that it refuses, and the error.
type failing struct {
	what string
	err  api.Errno
	call func() (bool, api.Errno)
}

func last(what string, err api.Errno, s api.Schema, n int) failing {
	return failing{what, err, func() (bool, api.Errno) {
		ver, err := schema.Last(s, n)
		return ver == 0, err
	}}
}

func at(what string, err api.Errno, s api.Schema, n, ver int) failing {
	return failing{what, err, func() (bool, api.Errno) {
		c, err := schema.At(s, n, ver)
		return c.Name == "" && len(c.Fields) == 0, err
	}}
}

func added(what string, err api.Errno, s api.Schema, c api.Class) failing {
	return failing{what, err, func() (bool, api.Errno) {
		d, err := schema.Add(s, c)
		return len(d.Lines) == 0, err
	}}
}

func turned(what string, err api.Errno, s api.Schema, n int, ch api.Change) failing {
	return failing{what, err, func() (bool, api.Errno) {
		d, err := schema.Turn(s, n, ch)
		return len(d.Lines) == 0, err
	}}
}

func carry(what string, err api.Errno, s api.Schema, n, from, to int, vals ...api.Val) failing {
	return failing{what, err, func() (bool, api.Errno) {
		l, err := schema.Carry(s, n, from, to, vals)
		return len(l) == 0, err
	}}
}

// refused fails, if one of some calls is not refused by its error, with nothing beside it.
func refused(t *testing.T, l ...failing) {
	t.Helper()
	for _, f := range l {
		if none, err := f.call(); !none || err != f.err {
			t.Errorf("%s: %t, %d, not %d", f.what, none, err, f.err)
		}
	}
}

// P8.2 to P8.4, R1, R2: which error is told where several apply, and nothing beside it.
func TestErrors(t *testing.T) {
	bad, s, full := lines(line(of("a")), line(of("a"))), example(), most()
	refused(t,
		last("wrong schema, no line", api.ErrSchema, bad, 9), last("below 0", api.ErrArg, s, -1), last("as many as there are", api.ErrArg, s, 1), last("no lines", api.ErrArg, api.Schema{}, 0),
		at("wrong schema, no line", api.ErrSchema, bad, -1, -1), at("no line, no version", api.ErrArg, s, 1, 9), at("line below 0", api.ErrArg, s, -1, 0), at("below 0", api.ErrVersion, s, 0, -1), at("one too many", api.ErrVersion, s, 0, 2), at("one too many of twelve", api.ErrVersion, full, 7, 13),
		added("wrong schema, wrong class", api.ErrSchema, bad, of("")), added("wrong class of a name there is", api.ErrClass, s, of("c", field("", numType))), added("wrong class as a ninth one", api.ErrClass, full, of("")), added("name there is", api.ErrSchema, s, of("c")), added("ninth", api.ErrSchema, full, of("ninth")), added("ninth of a name there is", api.ErrSchema, full, of("c3")),
		turned("wrong schema, no line", api.ErrSchema, bad, -1, api.Change{}), turned("no line, wrong change", api.ErrArg, s, 1, api.Change{}), turned("line below 0", api.ErrArg, full, -1, index("a")), turned("thirteenth", api.ErrVersion, full, 0, index("a")), turned("wrong one as a thirteenth", api.ErrVersion, full, 0, api.Change{}), turned("right of the class as it was first alone", api.ErrChange, s, 0, add("b", numType, "a*2")), turned("wrong change", api.ErrChange, s, 0, api.Change{}),
		carry("wrong schema, no line", api.ErrSchema, bad, 9, 9, 8), carry("no line, no version", api.ErrArg, s, 1, 9, 8), carry("from below 0", api.ErrVersion, s, 0, -1, 1), carry("to below 0", api.ErrVersion, s, 0, 0, -1, numV(3)), carry("from too many", api.ErrVersion, s, 0, 2, 2), carry("to too many", api.ErrVersion, s, 0, 0, 2, numV(3)), carry("backward", api.ErrVersion, s, 0, 1, 0, numV(3), numV(6)), carry("backward, what does not fit", api.ErrVersion, s, 0, 1, 0),
		carry("too few", api.ErrFit, s, 0, 0, 1), carry("of the version behind", api.ErrFit, s, 0, 0, 1, numV(3), numV(6)), carry("of the version ahead", api.ErrFit, s, 0, 1, 1, numV(3)), carry("of another type", api.ErrFit, s, 0, 0, 0, textV("x")), carry("not right", api.ErrFit, s, 0, 0, 1, numV(api.MaxNum+1)),
	)
}

// P8.1 to P8.4: all calls, of schemas that are not: but of Find's, nothing but the error is told, whatever else is handed in.
func TestWrong(t *testing.T) {
	for _, w := range wrongSchemas() {
		s := w.schema
		i, err := schema.Check(s)
		if want, told := plainCheck(s); i != w.place || i != want || err != api.ErrSchema || err != told {
			t.Errorf("%+v: %d, %d, not %d", s, i, err, w.place)
		}
		checkFind(t, s)
		refused(t, added("class", api.ErrSchema, s, of("new")), added("wrong class", api.ErrSchema, s, of("")))
		for n := range 3 {
			refused(t, last("line", api.ErrSchema, s, n), at("line", api.ErrSchema, s, n, 0), turned("line", api.ErrSchema, s, n, drop("n")), carry("line", api.ErrSchema, s, n, 0, 0, numV(5)), carry("line", api.ErrSchema, s, n, 0, 1, numV(5)))
		}
		refused(t, last("no line", api.ErrSchema, s, -1), at("no line", api.ErrSchema, s, 9, 0), turned("no line", api.ErrSchema, s, -1, drop("n")), carry("no line", api.ErrSchema, s, 9, 0, 0))
	}
}

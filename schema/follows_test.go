package schema_test

import (
	"math/rand"
	"testing"

	"moraine/api"
	"moraine/class"
	"moraine/sample"
	"moraine/schema"
)

// follows holds P8.5 of one line of a right schema: what is carried fits, and over a version between it is the same as at once; and each class has the line's name.
func follows(t *testing.T, s api.Schema, n int) {
	t.Helper()
	last, _ := schema.Last(s, n)
	for from := range last + 1 {
		c, err := schema.At(s, n, from)
		if err != api.OK || c.Name != s.Lines[n].First.Name {
			t.Fatalf("%+v, %d, %d: %+v, %d", s, n, from, c, err)
		}
		vals := sample.Fittings(c, from%3)
		for over := from; over <= last; over++ {
			ahead, err := schema.Carry(s, n, from, over, vals)
			if err != api.OK {
				t.Fatalf("%+v, %d from %d to %d: %d", s, n, from, over, err)
			}
			c, _ := schema.At(s, n, over)
			if i, err := class.Check(c, ahead); err != api.OK {
				t.Fatalf("%+v, %d from %d to %d: %+v does not fit at %d", s, n, from, over, ahead, i)
			}
			for _, to := range []int{over, (over + last + 1) / 2, last} {
				once, _ := schema.Carry(s, n, from, to, vals)
				if twice, err := schema.Carry(s, n, over, to, ahead); err != api.OK || !sameVals(once, twice) {
					t.Fatalf("%+v, %d from %d over %d to %d: %+v, at once %+v", s, n, from, over, to, twice, once)
				}
			}
		}
	}
}

// keeps fails, if a schema has not all classes of all versions that one ahead of it had, under the same numbers.
func keeps(t *testing.T, old, now api.Schema) {
	t.Helper()
	for n := range old.Lines {
		last, _ := schema.Last(old, n)
		for ver := range last + 1 {
			c, _ := schema.At(old, n, ver)
			if d, err := schema.At(now, n, ver); err != api.OK || !class.Same(c, d) {
				t.Fatalf("%+v, then %+v: class %d of version %d is %+v, was %+v", old, now, n, ver, d, c)
			}
		}
	}
}

// P8.5: of the schemas of the other tests.
func TestFollows(t *testing.T) {
	for _, s := range append(rightSchemas()[:9], lines(long("c"), line(sample.Whole(), turn("w", textType, "t"), turn("n", numType, "len(w) + n")))) {
		for n := range s.Lines {
			follows(t, s, n)
		}
	}
}

// grown is a schema behind some steps, in each of which a class may come, or be changed; each step is held against the chapter's words.
func grown(t *testing.T, r *rand.Rand, steps int) api.Schema {
	t.Helper()
	var s api.Schema
	for range steps {
		n := r.Intn(len(s.Lines) + 1)
		if r.Intn(4) == 0 || n == len(s.Lines) {
			l := append(sample.Classes(), sample.WrongClasses()[2:5]...)
			s = step(t, s, schema.Add, plainAdd, l[r.Intn(len(l))])
			continue
		}
		last, _ := schema.Last(s, n)
		c, _ := schema.At(s, n, last)
		turn := func(call func(api.Schema, int, api.Change) (api.Schema, api.Errno)) func(api.Schema, api.Change) (api.Schema, api.Errno) {
			return func(s api.Schema, ch api.Change) (api.Schema, api.Errno) { return call(s, n, ch) }
		}
		s = step(t, s, turn(schema.Turn), turn(plainTurn), sample.Change(r.Intn, c))
	}
	return s
}

// step is the schema behind a call, or the same one, if that is refused.
func step[T any](t *testing.T, s api.Schema, call, plain func(api.Schema, T) (api.Schema, api.Errno), of T) api.Schema {
	t.Helper()
	d, err := call(s, of)
	if want, told := plain(s, of); !same(d, want) || err != told {
		t.Fatalf("%+v and %+v: %+v, %d, not %+v, %d", s, of, d, err, want, told)
	}
	if err != api.OK {
		return s
	}
	if i, err := schema.Check(d); i != 0 || err != api.OK {
		t.Fatalf("%+v: %d, %d", d, i, err)
	}
	keeps(t, s, d)
	return d
}

// P8.3, P8.5: long runs from a schema without classes on.
func TestRuns(t *testing.T) {
	r := rand.New(rand.NewSource(85))
	classes, changes := 0, 0
	for i := range 60 {
		s := grown(t, r, 20+i)
		for n, l := range s.Lines {
			classes++
			changes += len(l.Changes)
			if i%4 == 0 {
				follows(t, s, n)
			}
		}
	}
	if classes < 200 || changes < 500 {
		t.Errorf("%d classes, %d changes", classes, changes)
	}
}

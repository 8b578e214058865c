package schema_test

import (
	"slices"

	"moraine/api"
	"moraine/sample"
)

// example is the chapter's schema.
func example() api.Schema {
	return lines(line(of("c", field("a", numType)), add("b", numType, "a*2")))
}

// long is a line of a name with as many changes as there may be, of each kind; no two versions' classes are the same.
func long(name string) api.Line {
	return line(of(name, field("a", numType)),
		add("b", numType, "a*2"), add("t", textType, `"x"`), rename("a", "c"), index("b"), turn("c", textType, "text(b + c)"), split("t", "t", "u", listOf(api.Text), "", ""),
		drop("b"), rename("c", "b"), add("r", sample.Kind(api.Ref), ""), split("b", "a", "b", numType, "len(b)", "len(b) + 1"), index("a"), turn("u", sample.Kind(api.Weak), ""))
}

// most is a schema with as many lines as there may be, each with as many changes.
func most() api.Schema {
	var s api.Schema
	for i := range api.MaxClasses {
		s.Lines = append(s.Lines, long("c"+string(rune('0'+i))))
	}
	return s
}

// eight is a schema of eight lines without changes.
func eight() api.Schema {
	var s api.Schema
	for _, c := range sample.Classes()[:8] {
		s.Lines = append(s.Lines, line(c))
	}
	return s
}

// rightSchemas are schemas that are right.
func rightSchemas() []api.Schema {
	whole := line(sample.Whole(), drop("w"), add("w", listOf(api.Weak), "ws"), index("t"), index("t"))
	seven := eight()
	seven.Lines = slices.Delete(seven.Lines, 3, 4)
	back := line(of("back", field("a", numType)), rename("a", "b"), rename("b", "a"), drop("a"), add("a", textType, ""))
	return []api.Schema{{}, {Lines: []api.Line{}}, lines(line(of("e"))), example(), lines(long("c")), lines(line(sample.Node()), whole, back), lines(back, line(sample.Pair())), seven, eight(), most()}
}

// wrong is a schema that is not right, and its first line that is not.
type wrong struct {
	schema api.Schema
	place  int
}

// wrongSchemas are schemas with one fault, and some with two.
func wrongSchemas() []wrong {
	good, more := long("good"), line(sample.Pair(), add("x", textType, "t"))
	nine := eight()
	nine.Lines = append(nine.Lines, line(of("ninth")))
	faults := append(slices.Clone(nine.Lines), good)
	faults[0], faults[2] = line(of("")), faults[1]
	l := []wrong{{nine, 8}, {lines(faults...), 8}, {lines(append(most().Lines, good)...), 8}}
	for _, bad := range wrongLines() {
		l = append(l, wrong{lines(bad), 0}, wrong{lines(good, bad, more), 1}, wrong{lines(more, good, bad), 2}, wrong{lines(bad, bad), 0}, wrong{lines(good, good, bad), 1})
	}
	other := line(of("good"))
	return append(l, wrong{lines(good, good), 1}, wrong{lines(more, good, other), 2}, wrong{lines(good, more, other, good), 2}, wrong{lines(other, more, more, other), 2},
		wrong{lines(append(most().Lines[:7], most().Lines[0])...), 7})
}

// wrongLines are lines that are not right, each for one fault.
func wrongLines() []api.Line {
	var l []api.Line
	for _, c := range sample.WrongClasses() {
		l = append(l, line(c), line(c, drop("n")))
	}
	for i := range api.MaxChanges {
		skipped, twice, none := long("bad"), long("bad"), long("bad")
		skipped.Changes = append(skipped.Changes[:i:i], drop("nobody"))
		twice.Changes = append(twice.Changes[:i:i], add("x", numType, ""), add("x", numType, ""))
		none.Changes[i] = api.Change{}
		l = append(l, skipped, none)
		if len(twice.Changes) <= api.MaxChanges {
			l = append(l, twice)
		}
	}
	thirteen := long("bad")
	thirteen.Changes = append(thirteen.Changes, index("a"))
	c := of("bad", field("a", numType), field("b", numType))
	return append(l, thirteen, line(c, drop("a"), drop("a")), line(c, drop("a"), index("a")), line(c, rename("a", "x"), add("y", numType, "a")), line(c, index("x"), add("x", numType, "")), line(c, add("a", numType, "")))
}

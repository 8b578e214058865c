package val_test

import (
	"math"
	"math/rand"
	"regexp"
	"strconv"
	"strings"
	"testing"

	"moraine/api"
	"moraine/val"
)

// How values that are no lists are written, but for their limits.
var (
	writtenNum  = regexp.MustCompile(`^(0|-?[1-9][0-9]*)$`)
	writtenRef  = regexp.MustCompile(`^[@~]-?[1-9][0-9]*$`)
	writtenText = regexp.MustCompile(`^"([^"\\]|\\"|\\\\)*"$`)
	escape      = regexp.MustCompile(`\\(["\\])`)
)

// plainItem is the right value, no list, that is written as the whole of s.
func plainItem(s string) (api.Val, bool) {
	var v api.Val
	switch {
	case s == "-":
		return v, true
	case writtenNum.MatchString(s):
		n, err := strconv.Atoi(s)
		return num(n), err == nil && n >= -1000000000000000 && n <= 1000000000000000
	case writtenRef.MatchString(s):
		v.Kind = map[byte]int{'@': api.Ref, '~': api.Weak}[s[0]]
		n, err := strconv.Atoi(s[1:])
		v.N = n
		return v, err == nil && n >= -20 && n <= 100000
	case writtenText.MatchString(s):
		v = text(escape.ReplaceAllString(s[1:len(s)-1], "$1"))
		return v, val.Right(v)
	}
	return v, false
}

// plainItems are the values that are written as the whole of s, with a blank between.
func plainItems(s string) ([]api.Val, bool) {
	for i := range len(s) + 1 {
		if i < len(s) && s[i] != ' ' {
			continue
		}
		v, ok := plainItem(s[:i])
		switch {
		case ok && i == len(s):
			return []api.Val{v}, true
		case ok:
			l, ok := plainItems(s[i+1:])
			return append([]api.Val{v}, l...), ok
		}
	}
	return nil, false
}

// plainVal is the right value that is written as the whole of s.
func plainVal(s string) (api.Val, bool) {
	if !strings.HasPrefix(s, "[") || !strings.HasSuffix(s, "]") {
		return plainItem(s)
	}
	if s == "[]" {
		return list(), true
	}
	l, ok := plainItems(s[1 : len(s)-1])
	return list(l...), ok && len(l) < 13
}

// plainRead looks for the longest text from at on that is a right value's.
func plainRead(s string, at int) (api.Val, int, api.Errno) {
	if at < 0 || at > len(s) {
		return api.Val{}, at, api.ErrArg
	}
	for to := len(s); to > at; to-- {
		if v, ok := plainVal(s[at:to]); ok {
			return v, to, api.OK
		}
	}
	return api.Val{}, at, api.ErrVal
}

// checkRead holds what is read against the chapter's words.
func checkRead(t *testing.T, s string, at int) {
	t.Helper()
	v, to, e := val.Read(s, at)
	w, behind, told := plainRead(s, at)
	if !val.Same(v, w) || to != behind || e != told {
		t.Fatalf("%q at %d: %+v, %d, %d, not %+v, %d, %d", s, at, v, to, e, w, behind, told)
	}
	if e != api.OK {
		return
	}
	if u, f := val.Text(v); u != s[at:to] || f != api.OK || !val.Right(v) {
		t.Fatalf("%q at %d is read as %+v, which is %q", s, at, v, u)
	}
}

// P3.6: how values of each kind are written.
func TestTextExamples(t *testing.T) {
	for _, x := range []struct {
		v api.Val
		s string
	}{
		{list(num(1), text(`a"b`), ref(7), api.Val{}), `[1 "a\"b" @7 -]`}, {num(-5), "-5"}, {api.Val{}, "-"}, {num(0), "0"}, {num(api.MaxNum), "1000000000000000"}, {num(-api.MaxNum), "-1000000000000000"},
		{text(""), `""`}, {text("a b"), `"a b"`}, {text(`\`), `"\\"`}, {text(`\"`), `"\\\""`}, {text("é~"), `"é~"`}, {ref(100000), "@100000"}, {ref(-20), "@-20"}, {weak(1), "~1"}, {weak(-1), "~-1"},
		{list(), "[]"}, {list(api.Val{}), "[-]"}, {list(text("]"), text(" "), weak(-3)), `["]" " " ~-3]`}, {ones(12), "[1 1 1 1 1 1 1 1 1 1 1 1]"},
	} {
		if s, e := val.Text(x.v); s != x.s || e != api.OK {
			t.Errorf("%+v: %q, %d", x.v, s, e)
		}
		if v, to, e := val.Read(x.s, 0); !val.Same(v, x.v) || to != len(x.s) || e != api.OK {
			t.Errorf("%q: %+v, %d, %d", x.s, v, to, e)
		}
	}
}

// P3.6: of values that are not right nothing is written.
func TestTextWrong(t *testing.T) {
	for _, v := range wrongVals() {
		if s, e := val.Text(v); s != "" || e != api.ErrVal {
			t.Errorf("%+v: %q, %d", v, s, e)
		}
	}
}

// P3.6, P3.7: Read undoes Text, wherever the text stands, but ahead of a digit.
func TestReadUndoesText(t *testing.T) {
	for _, v := range rightVals() {
		s, e := val.Text(v)
		if w, ok := plainVal(s); e != api.OK || !ok || !val.Same(v, w) {
			t.Errorf("%+v: %q, %d", v, s, e)
		}
		for _, ahead := range []string{"", "0", "\"", `\`, "[", "é"} {
			for _, behind := range []string{"", " ", "]", "\"", `\`, "-", "-1", "@", "a", "\x00", "\xff", " 1"} {
				w, to, e := val.Read(ahead+s+behind, len(ahead))
				if !val.Same(v, w) || to != len(ahead)+len(s) || e != api.OK {
					t.Fatalf("%+v between %q and %q: %+v, %d, %d", v, ahead, behind, w, to, e)
				}
			}
		}
	}
}

// P3.6: of two values that are written the longer one is read, no number with noughts ahead, none beyond its limits.
func TestReadLongest(t *testing.T) {
	for _, x := range []struct {
		s  string
		v  api.Val
		to int
	}{
		{"-5", num(-5), 2}, {"- 5", api.Val{}, 1}, {"--5", api.Val{}, 1}, {"-0", api.Val{}, 1}, {"-05", api.Val{}, 1}, {"-a", api.Val{}, 1},
		{"007", num(0), 1}, {"00", num(0), 1}, {"0-", num(0), 1}, {"10", num(10), 2}, {"1a", num(1), 1}, {"12 3", num(12), 2}, {"1.5", num(1), 1}, {"1e3", num(1), 1}, {"1_0", num(1), 1},
		{"1000000000000000", num(api.MaxNum), 16}, {"1000000000000001", num(100000000000000), 15}, {"10000000000000000", num(api.MaxNum), 16}, {"9999999999999999", num(999999999999999), 15}, {"123456789012345678901234567890", num(123456789012345), 15},
		{"-1000000000000000", num(-api.MaxNum), 17}, {"-1000000000000001", num(-100000000000000), 16}, {"-99999999999999999999", num(-999999999999999), 16},
		{"@100000", ref(100000), 7}, {"@100001", ref(10000), 6}, {"@1000000", ref(100000), 7}, {"@999999", ref(99999), 6}, {"@-20", ref(-20), 4}, {"@-21", ref(-2), 3}, {"@-200", ref(-20), 4}, {"@-1-", ref(-1), 3}, {"@5@6", ref(5), 2},
		{"~100000", weak(100000), 7}, {"~100001", weak(10000), 6}, {"~-19", weak(-19), 4}, {"~-99", weak(-9), 3}, {"~10", weak(10), 3},
		{`""a`, text(""), 2}, {`"a""`, text("a"), 3}, {`"\\"\"`, text(`\`), 4}, {"[]]", list(), 2}, {"[] ", list(), 2}, {"[1]1", list(num(1)), 3}, {"[@-20 ~100000]", list(ref(-20), weak(100000)), 14},
	} {
		if v, to, e := val.Read(x.s, 0); !val.Same(v, x.v) || to != x.to || e != api.OK {
			t.Errorf("%q: %+v, %d, %d", x.s, v, to, e)
		}
		if v, to, e := val.Read("[ "+x.s, 2); !val.Same(v, x.v) || to != x.to+2 || e != api.OK {
			t.Errorf("%q behind others: %+v, %d, %d", x.s, v, to, e)
		}
	}
}

// P3.6: where no value is written, the place is told.
func TestReadNone(t *testing.T) {
	many := strings.Repeat("1 ", 12)
	for _, s := range []string{
		"", " ", " 1", "\t1", "+1", "a", "]", ",", "\x00", "\xff", "\xc3", "\ufffd", "'a'", ".5", "\u0661", "\uff11", "/1", ":1",
		"@", "@0", "@01", "@00", "@-", "@-0", "@-01", "@a", "@ 1", "@@1", "@+1", "@--1", "~", "~0", "~-0", "~-", "~@1", "~x", "@\xff",
		`"`, `"a`, `"\`, `"\"`, `"\\`, `"\a"`, `"\n"`, `"\ "`, "\"\x1f\"", "\"a\nb\"", "\"\x7f\"", "\"\x00\"", "\"\xff\"", "\"\xc3\"", "\"\xc3\xa9\xa9\"", "\"\xed\xa0\x80\"", "\"\xc0\x80\"", "\"\\\xff\"", "\"\xf4\x90\x80\x80\"",
		`"` + long + `y"`, `"` + long[1:] + `é"`, `"` + long + `\""`, `"` + long, `"` + strings.Repeat(`\\`, 61) + `"`, `"` + strings.Repeat("x", 1<<20),
		"[", "[1", "[1 ", "[1 ]", "[ 1]", "[ ]", "[1  2]", "[1,2]", "[1\t2]", "[1 2", "[12 a]", "[[]]", "[[1]]", "[1 []]", "[-0]", "[007]", "[--]", "[@0]", "[@-21]", "[1-2]", `[""""]`, `["a]`, "[~]", "[a]", "[\"\x7f\"]", "[@100001]", "[9999999999999999]",
		"[" + many + "1]", "[" + many + "]", "[" + many, "[" + strings.Repeat("- ", 100000) + "-]", strings.Repeat("[", 100000),
	} {
		for _, at := range []int{0, 3} {
			all := "[1 "[:at] + s
			if v, to, e := val.Read(all, at); !val.Same(v, api.Val{}) || to != at || e != api.ErrVal {
				t.Errorf("%.80q at %d: %+v, %d, %d", all, at, v, to, e)
			}
		}
	}
}

// P3.6: places that are none are told; at the end, and within a rune, nothing is written.
func TestReadPlaces(t *testing.T) {
	for _, s := range []string{"", "1", "[1 2]", "é"} {
		for _, at := range []int{math.MinInt, -2, -1, len(s) + 1, len(s) + 2, math.MaxInt} {
			if v, to, e := val.Read(s, at); !val.Same(v, api.Val{}) || to != at || e != api.ErrArg {
				t.Errorf("%q at %d: %+v, %d, %d", s, at, v, to, e)
			}
		}
		if v, to, e := val.Read(s, len(s)); !val.Same(v, api.Val{}) || to != len(s) || e != api.ErrVal {
			t.Errorf("%q at its end: %+v, %d, %d", s, v, to, e)
		}
	}
	if v, to, e := val.Read("é1", 1); !val.Same(v, api.Val{}) || to != 1 || e != api.ErrVal {
		t.Error(v, to, e)
	}
	if v, to, e := val.Read("é1", 2); !val.Same(v, num(1)) || to != 3 || e != api.OK {
		t.Error(v, to, e)
	}
}

// P3.6: all short texts are read as the chapter says.
func TestReadAllShort(t *testing.T) {
	check := func(s string) { checkRead(t, s, 0) }
	strands("-0129@~\"\\[] a\xc3\xa9\x1f\x7f", 3, check)
	strands("-10@\"\\[] ", 5, check)
	strands("-1[ ]", 7, check)
	for _, s := range []string{"[1 ", "@", "~-", "-", "\"\\"} {
		strands("-012\"] \\", 4, func(u string) { check(s + u) })
	}
}

// P3.6: texts of right values, spoilt, are read as the chapter says, from each place.
func TestReadSpoilt(t *testing.T) {
	r := rand.New(rand.NewSource(4))
	l := rightVals()
	for range 20000 {
		s, _ := val.Text(l[r.Intn(len(l)-1)])
		s = spoil(r, s, "-0129@~\"\\[] a\xc3\xa9\x1f\x7f")
		checkRead(t, s, r.Intn(min(len(s), 3)+1))
	}
}

// P3.7: unlike values have unlike texts.
func TestTextsUnlike(t *testing.T) {
	of := map[string]api.Val{}
	for _, v := range rightVals()[1:] {
		s, _ := val.Text(v)
		if w, ok := of[s]; ok {
			t.Errorf("%q is the text of %+v and of %+v", s, v, w)
		}
		of[s] = v
	}
}

// R3: texts that are answered are new memory, and no two lists share any.
func TestReadMemory(t *testing.T) {
	s, _ := val.Text(list(text("abc"), text("abc")))
	v, _, _ := val.Read(s, 0)
	w, _, _ := val.Read(s, 0)
	if within(v.L[0].S, s) || within(v.L[1].S, s) {
		t.Error("a text shares memory with what it is read from")
	}
	clear(v.L[:cap(v.L)])
	if !val.Same(w, list(text("abc"), text("abc"))) {
		t.Error("two answers share memory")
	}
}

// FuzzRead: P3.6 of any text.
func FuzzRead(f *testing.F) {
	for _, v := range rightVals() {
		s, _ := val.Text(v)
		f.Add(s, 0)
	}
	f.Fuzz(func(t *testing.T, s string, at int) { checkRead(t, s, at) })
}

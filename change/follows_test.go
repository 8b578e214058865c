package change_test

import (
	"math/rand"
	"testing"

	"moraine/api"
	"moraine/change"
	"moraine/class"
	"moraine/sample"
	"moraine/val"
)

// made is a class and values behind some changes, each of which is right.
func made(t *testing.T, c api.Class, vals []api.Val, l ...api.Change) (api.Class, []api.Val) {
	t.Helper()
	for _, ch := range l {
		if !check(t, c, ch, vals) {
			t.Fatalf("%+v of %+v is not right", ch, c)
		}
		told, _ := change.Vals(c, ch, vals)
		c, _ = change.Apply(c, ch)
		vals = told
	}
	return c, vals
}

// leaves fails, if behind some changes there is not what there was.
func leaves(t *testing.T, c api.Class, vals []api.Val, l ...api.Change) {
	t.Helper()
	if d, told := made(t, c, vals, l...); !class.Same(c, d) || !val.Same(listV(vals...), listV(told...)) {
		t.Errorf("%+v of %+v, %+v leave %+v, %+v", l, c, vals, d, told)
	}
}

// P7.5: what comes and goes again, is named anew and back, is indexed and not any more, leaves what there was.
func TestBack(t *testing.T) {
	for _, c := range classes() {
		for seed := range 3 {
			vals := fittings(c, seed)
			for _, typ := range rightTypes() {
				if len(c.Fields) < api.MaxFields {
					leaves(t, c, vals, add("x", typ, ""), drop("x"))
				}
			}
			for _, f := range c.Fields {
				leaves(t, c, vals, rename(f.Name, "x"), rename("x", f.Name))
				leaves(t, c, vals, rename(f.Name, "x"), rename("x", "y"), rename("y", f.Name))
				if len(c.Fields) < api.MaxFields {
					leaves(t, c, vals, add("x", f.Type, f.Name), drop("x"))
				}
				if len(c.Fields) < api.MaxFields && !f.Indexed {
					leaves(t, c, vals, split(f.Name, "x", "y", f.Type, f.Name, ""), drop("y"), rename("x", f.Name))
					leaves(t, c, vals, split(f.Name, "x", f.Name, f.Type, "", f.Name), drop("x"), turn(f.Name, f.Type, f.Name))
				}
				if f.Type.Of == 0 && f.Type.Kind != api.Weak {
					leaves(t, c, vals, index(f.Name), index(f.Name))
					leaves(t, c, vals, rename(f.Name, "x"), index("x"), rename("x", f.Name), index(f.Name))
				}
			}
		}
	}
}

// P7.5: each right change leaves a right class, and values that fit it: check holds that of each, through long runs.
func TestRuns(t *testing.T) {
	r := rand.New(rand.NewSource(75))
	right, kinds := 0, map[int]int{}
	for _, c := range classes() {
		for seed := range 3 {
			d, vals := c, fittings(c, seed)
			for range 300 {
				ch := sample.Change(r.Intn, d)
				if !check(t, d, ch, vals) {
					continue
				}
				d, vals = made(t, d, vals, ch)
				right++
				kinds[ch.Kind]++
			}
		}
	}
	if right < 2000 || len(kinds) < 6 {
		t.Errorf("%d right changes, of kinds %v", right, kinds)
	}
}

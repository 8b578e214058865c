package sample_test

import (
	"testing"

	"moraine/api"
	"moraine/class"
	"moraine/sample"
)

// Classes that are called right are, with values that fit them, and so are types; classes that are called wrong are not.
func TestClasses(t *testing.T) {
	for _, c := range sample.Classes() {
		for seed := range 20 {
			if i, err := class.Check(c, sample.Fittings(c, seed)); err != api.OK {
				t.Errorf("%+v, %d: value %d, %d", c, seed, i, err)
			}
		}
	}
	for _, c := range sample.WrongClasses() {
		if class.Right(c) {
			t.Errorf("%+v is right", c)
		}
	}
	for _, typ := range sample.Types() {
		if !class.RightType(typ) {
			t.Errorf("%+v is not right", typ)
		}
	}
}

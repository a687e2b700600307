package value

import (
	"runtime/debug"
	"slices"
	"testing"
)

func TestCompare(t *testing.T) {
	rising := Array{
		Null{}, Bool(false), Bool(true), Number(-9223372036854775808), Number(-1), Number(0), Number(9), Number(10), Number(9223372036854775807),
		String(""), String("A"), String("a"), String("aa"), String("b"), String("é"), String("\uffff"), String("\U0001f600"),
		Array{}, Array{Null{}}, Array{Null{}, Null{}}, Array{Number(0), Number(9)}, Array{Number(1)}, Array{Array{}}, Array{Array{}, Null{}}, Array{Array{Null{}}}, Array{Object{}},
		Object{}, Object{{"a", Number(1)}}, Object{{"a", Number(2)}}, Object{{"a", Array{Number(0)}}}, Object{{"a", Number(0)}, {"b", Number(0)}}, Object{{"a", Number(0)}, {"b", Number(1)}}, Object{{"a", Number(1)}, {"b", Number(0)}}, Object{{"b", Number(0)}},
	}
	for i, a := range rising {
		for j, b := range rising {
			c := Compare(a, b)
			if (c < 0) != (i < j) || (c > 0) != (i > j) {
				t.Errorf("Compare(%s, %s) = %d", Canonical(a), Canonical(b), c)
			}
		}
	}
	mixed := slices.Clone(rising)
	slices.Reverse(mixed)
	before := Canonical(mixed)
	if sorted := Sorted(mixed); Canonical(sorted) != Canonical(rising) || Canonical(mixed) != before {
		t.Error(Canonical(sorted), Canonical(mixed))
	}
}

// nested makes two values of which the first stands ahead of the second only
// for what they have innermost.
func nested(deep int) (Value, Value) {
	var a, b Value = Number(1), Number(2)
	for i := range deep {
		if i%2 == 0 {
			a, b = Array{Null{}, a}, Array{Null{}, b}
		} else {
			a, b = Object{{"a", Null{}}, {"b", a}}, Object{{"a", Null{}}, {"b", b}}
		}
	}
	return a, b
}

func TestCompareDeepValues(t *testing.T) {
	defer debug.SetMaxStack(debug.SetMaxStack(1 << 20))
	a, b := nested(100000)
	c, _ := nested(100000)
	if Compare(a, b) >= 0 || Compare(b, a) <= 0 || Compare(a, c) != 0 || Compare(a, Array{a}) <= 0 {
		t.Error(Compare(a, b), Compare(b, a), Compare(a, c), Compare(a, Array{a}))
	}
}

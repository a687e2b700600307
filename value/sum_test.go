package value

import (
	"math"
	"math/big"
	"testing"
)

// edgy are numbers at and around where products and sums go over.
func edgy() []int64 {
	numbers := []int64{0, 1, 2, 3, 7, 10, 3037000499, 3037000500, 1 << 31, 1 << 32, 1 << 62, math.MaxInt64/2 - 1, math.MaxInt64 / 2, math.MaxInt64/2 + 1, math.MaxInt64 - 1, math.MaxInt64}
	for _, n := range numbers {
		numbers = append(numbers, -n)
	}
	return append(numbers, math.MinInt64)
}

func TestNumbers(t *testing.T) {
	for _, x := range edgy() {
		for _, y := range edgy() {
			a, b := big.NewInt(x), big.NewInt(y)
			expectNumber(t, "Add", Add, x, y, new(big.Int).Add(a, b))
			expectNumber(t, "Subtract", Subtract, x, y, new(big.Int).Sub(a, b))
			expectNumber(t, "Multiply", Multiply, x, y, new(big.Int).Mul(a, b))
			if y != 0 {
				expectNumber(t, "Divide", Divide, x, y, new(big.Int).Quo(a, b))
				expectNumber(t, "Rest", Rest, x, y, new(big.Int).Rem(a, b))
				continue
			}
			if v, err := Divide(Number(x), Number(0)); v != nil || err != ErrZero {
				t.Error(x, v, err)
			}
			if v, err := Rest(Number(x), Number(0)); v != nil || err != ErrZero {
				t.Error(x, v, err)
			}
		}
	}
}

func expectNumber(t *testing.T, name string, op func(x, y Value) (Value, error), x, y int64, want *big.Int) {
	t.Helper()
	got, err := op(Number(x), Number(y))
	if !want.IsInt64() {
		if got != nil || err != ErrOverflow {
			t.Errorf("%s(%d, %d) = %v, %v, want overflow", name, x, y, got, err)
		}
		return
	}
	if got != Value(Number(want.Int64())) || err != nil {
		t.Errorf("%s(%d, %d) = %v, %v, want %d", name, x, y, got, err, want)
	}
}

func TestOtherKinds(t *testing.T) {
	kinds := []Value{Null{}, Bool(true), Number(1), String("a"), Array{Number(1)}, Object{{"a", Number(1)}}}
	for i, x := range kinds {
		for j, y := range kinds {
			for name, op := range map[string]func(x, y Value) (Value, error){"Add": Add, "Subtract": Subtract, "Multiply": Multiply, "Divide": Divide, "Rest": Rest} {
				fits := i == j && i == 2 || name == "Add" && (i == 0 || j == 0 || i == j && i > 1) || name == "Subtract" && i == j && i == 4
				v, err := op(x, y)
				if fits != (err == nil) || fits != (v != nil) || !fits && err != ErrType {
					t.Errorf("%s(%s, %s) = %v, %v", name, Canonical(x), Canonical(y), v, err)
				}
			}
		}
	}
}

func TestArraysWithoutSome(t *testing.T) {
	x := Array{Number(2), Number(1), Array{Number(1)}, Number(2), Null{}}
	if v, err := Subtract(x, Array{Null{}, Number(2), Number(7)}); err != nil || Canonical(v) != "[1,[1]]" {
		t.Error(v, err)
	}
}

// TestSumsShareNothingThatChanges: a sum is made of others, which stay.
func TestSumsShareNothingThatChanges(t *testing.T) {
	x := append(make(Array, 0, 10), Number(1))
	first, _ := Add(x, Array{Number(2)})
	second, _ := Add(x, Array{Number(3)})
	if Canonical(first) != "[1,2]" || Canonical(second) != "[1,3]" || Canonical(x) != "[1]" {
		t.Error(Canonical(first), Canonical(second), Canonical(x))
	}
	o := append(make(Object, 0, 10), Member{"b", Number(1)})
	one, _ := Add(o, Object{{"a", Number(2)}})
	two, _ := Add(o, Object{{"b", Number(3)}})
	if Canonical(one) != `{"a":2,"b":1}` || Canonical(two) != `{"b":3}` || Canonical(o) != `{"b":1}` {
		t.Error(Canonical(one), Canonical(two), Canonical(o))
	}
}

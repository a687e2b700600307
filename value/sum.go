package value

import (
	"errors"
	"math"
	"slices"
)

// Why there is no value. The text of each is that of the error which a stream
// ends with.
var (
	ErrType     = errors.New("type")
	ErrZero     = errors.New("zero")
	ErrOverflow = errors.New("overflow")
)

// Add tells x + y.
func Add(x, y Value) (Value, error) {
	if _, ok := y.(Null); ok {
		return x, nil
	}
	switch x := x.(type) {
	case Null:
		return y, nil
	case Number:
		if y, ok := y.(Number); ok {
			return addNumbers(x, y)
		}
	case String:
		if y, ok := y.(String); ok {
			return x + y, nil
		}
	case Array:
		if y, ok := y.(Array); ok {
			return slices.Concat(x, y), nil
		}
	case Object:
		if y, ok := y.(Object); ok {
			return inOrder(slices.Concat(x, y)), nil
		}
	}
	return nil, ErrType
}

func addNumbers(x, y Number) (Value, error) {
	sum := x + y
	if (sum < x) != (y < 0) {
		return nil, ErrOverflow
	}
	return sum, nil
}

// Subtract tells x - y.
func Subtract(x, y Value) (Value, error) {
	switch x := x.(type) {
	case Number:
		if y, ok := y.(Number); ok {
			return subtractNumbers(x, y)
		}
	case Array:
		if y, ok := y.(Array); ok {
			return without(x, y), nil
		}
	}
	return nil, ErrType
}

func subtractNumbers(x, y Number) (Value, error) {
	difference := x - y
	if (difference > x) != (y < 0) {
		return nil, ErrOverflow
	}
	return difference, nil
}

// without sorts what is to go: long arrays would take too long otherwise.
func without(from, gone Array) Array {
	sorted := Sorted(gone)
	var left Array
	for _, v := range from {
		if _, found := slices.BinarySearchFunc(sorted, v, Compare); !found {
			left = append(left, v)
		}
	}
	return left
}

// Sorted tells the elements of an array in order.
func Sorted(a Array) Array {
	sorted := slices.Clone(a)
	slices.SortFunc(sorted, Compare)
	return sorted
}

// Multiply tells x * y.
func Multiply(x, y Value) (Value, error) {
	a, b, err := numbers(x, y)
	if err != nil {
		return nil, err
	}
	product := a * b
	// A wrapped product may divide back only where the quotient wraps too.
	if a != 0 && (product/a != b || a == -1 && b == math.MinInt64) {
		return nil, ErrOverflow
	}
	return product, nil
}

// Divide tells x / y, without the rest.
func Divide(x, y Value) (Value, error) {
	a, b, err := divisible(x, y)
	if err != nil {
		return nil, err
	}
	if a == math.MinInt64 && b == -1 {
		return nil, ErrOverflow
	}
	return a / b, nil
}

// Rest tells x % y.
func Rest(x, y Value) (Value, error) {
	a, b, err := divisible(x, y)
	if err != nil {
		return nil, err
	}
	return a % b, nil
}

func numbers(x, y Value) (Number, Number, error) {
	a, isNumber := x.(Number)
	b, areNumbers := y.(Number)
	if !isNumber || !areNumbers {
		return 0, 0, ErrType
	}
	return a, b, nil
}

func divisible(x, y Value) (Number, Number, error) {
	a, b, err := numbers(x, y)
	if err == nil && b == 0 {
		err = ErrZero
	}
	return a, b, err
}

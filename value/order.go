package value

import (
	"cmp"
	"slices"
	"strings"
)

// Compare tells whether a stands ahead of b in the order of values (below 0),
// behind it (above 0), or is the same (0). What is begun stands on a stack of
// its own: values may be deeper than calls can stand in each other.
func Compare(a, b Value) int {
	var open []facing
pairs:
	for {
		if c := compareOutside(a, b); c != 0 {
			return c
		}
		if left, right := parts(a), parts(b); len(left)+len(right) > 0 {
			open = append(open, facing{left, right})
		}
		for len(open) > 0 {
			top := &open[len(open)-1]
			if len(top.left) > 0 && len(top.right) > 0 {
				a, b = top.left[0], top.right[0]
				top.left, top.right = top.left[1:], top.right[1:]
				continue pairs
			}
			if c := cmp.Compare(len(top.left), len(top.right)); c != 0 {
				return c
			}
			open = open[:len(open)-1]
		}
		return 0
	}
}

// facing is what is left of two lists that are the same so far.
type facing struct{ left, right []Value }

// compareOutside compares two values but for those that stand in them.
func compareOutside(a, b Value) int {
	switch a := a.(type) {
	case Bool:
		if b, ok := b.(Bool); ok {
			return cmp.Compare(truthRank(a), truthRank(b))
		}
	case Number:
		if b, ok := b.(Number); ok {
			return cmp.Compare(a, b)
		}
	case String:
		if b, ok := b.(String); ok {
			return strings.Compare(string(a), string(b))
		}
	case Object:
		if b, ok := b.(Object); ok {
			return slices.CompareFunc(a, b, func(x, y Member) int {
				return strings.Compare(x.Key, y.Key)
			})
		}
	}
	return cmp.Compare(kindRank(a), kindRank(b))
}

func truthRank(b Bool) int {
	if b {
		return 1
	}
	return 0
}

func kindRank(v Value) int {
	switch v.(type) {
	case Null:
		return 0
	case Bool:
		return 1
	case Number:
		return 2
	case String:
		return 3
	case Array:
		return 4
	default:
		return 5
	}
}

// parts are the values in an array or an object, in order.
func parts(v Value) []Value {
	switch v := v.(type) {
	case Array:
		return v
	case Object:
		values := make([]Value, len(v))
		for i, m := range v {
			values[i] = m.Value
		}
		return values
	default:
		return nil
	}
}

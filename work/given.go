package work

import (
	"slices"
	"strings"
	"unicode/utf8"

	"spigot/syntax"
	"spigot/value"
)

// given begins a filter that there is without any definition, for an input
// without a path.
func (p place) given(f *syntax.Call, in spot) stream {
	switch f.Name {
	case "path":
		return mapped(p.open(f.Args[0], rooted(in.value)), func(x spot) spot {
			return spot{value: x.path.array()}
		})
	case "range":
		return p.numbers(f.Args[0], f.Args[1], in)
	case "setpath":
		return each(p.open(f.Args[0], in), func(steps spot) stream {
			return valued(p.open(f.Args[1], in), func(x value.Value) value.Value {
				return sure(value.Set(in.value, must[value.Array](steps.value), x))
			})
		})
	}
	if len(f.Args) == 1 {
		return valued(p.open(f.Args[0], in), func(x value.Value) value.Value {
			return givenWith(f.Name, in.value, x)
		})
	}
	return worked(func() value.Value { return givenAlone(f.Name, in.value) })
}

func (p place) numbers(from, below syntax.Filter, in spot) stream {
	return each(p.open(from, in), func(a spot) stream {
		return each(p.open(below, in), func(b spot) stream {
			return counted(must[value.Number](a.value), must[value.Number](b.value))
		})
	})
}

func counted(next, end value.Number) stream {
	return func() (spot, bool) {
		if next >= end {
			return none()
		}
		next++
		return spot{value: next - 1}, true
	}
}

// givenWith is what a filter gives for an input and one value that its
// parameter gives.
func givenWith(name string, v, x value.Value) value.Value {
	switch name {
	case "has":
		return has(v, x)
	case "split":
		return split(must[value.String](v), must[value.String](x))
	case "join":
		return join(must[value.Array](v), must[value.String](x))
	default: // delpath
		return sure(value.Delete(v, must[value.Array](x)))
	}
}

// givenAlone is what a filter without parameters gives for an input.
func givenAlone(name string, v value.Value) value.Value {
	switch name {
	case "not":
		return value.Bool(!isTrue(v))
	case "type":
		return kindName(v)
	case "length":
		return length(v)
	case "keys":
		return keys(v)
	case "add":
		return total(v)
	case "tostring":
		return textOf(v)
	case "tojson":
		return value.String(value.Canonical(v))
	case "fromjson":
		return read(must[value.String](v))
	case "sort":
		return value.Sorted(must[value.Array](v))
	case "reverse":
		return backwards(must[value.Array](v))
	case "explode":
		return explode(must[value.String](v))
	default: // implode
		return implode(must[value.Array](v))
	}
}

func has(v, by value.Value) value.Value {
	found, err := value.Has(v, by)
	return sure(value.Bool(found), err)
}

func split(s, by value.String) value.Array {
	var parts value.Array
	if s == "" {
		return parts
	}
	for part := range strings.SplitSeq(string(s), string(by)) {
		parts = append(parts, value.String(part))
	}
	return parts
}

func join(parts value.Array, by value.String) value.String {
	texts := make([]string, len(parts))
	for i, part := range parts {
		texts[i] = string(must[value.String](part))
	}
	return value.String(strings.Join(texts, string(by)))
}

func kindName(v value.Value) value.String {
	switch v.(type) {
	case value.Null:
		return "null"
	case value.Bool:
		return "boolean"
	case value.Number:
		return "number"
	case value.String:
		return "string"
	case value.Array:
		return "array"
	default:
		return "object"
	}
}

func length(v value.Value) value.Value {
	switch v := v.(type) {
	case value.Null:
		return value.Number(0)
	case value.Number:
		if v < 0 {
			return sure(value.Subtract(value.Number(0), v))
		}
		return v
	case value.String:
		return value.Number(utf8.RuneCountInString(string(v)))
	case value.Array:
		return value.Number(len(v))
	case value.Object:
		return value.Number(len(v))
	default:
		return sure(nil, value.ErrType)
	}
}

func keys(v value.Value) value.Value {
	var found value.Array
	for part := range rooted(v).mustParts().all {
		found = append(found, part.path.step)
	}
	return found
}

func total(v value.Value) value.Value {
	var sum value.Value = value.Null{}
	for part := range (spot{value: v}).mustParts().all {
		sum = sure(value.Add(sum, part.value))
	}
	return sum
}

func textOf(v value.Value) value.Value {
	if s, ok := v.(value.String); ok {
		return s
	}
	return value.String(value.Canonical(v))
}

func read(s value.String) value.Value {
	v, _, ok := value.Read(string(s))
	if !ok {
		panic(failure(errText))
	}
	return v
}

func backwards(a value.Array) value.Array {
	turned := slices.Clone(a)
	slices.Reverse(turned)
	return turned
}

func explode(s value.String) value.Array {
	var numbers value.Array
	for _, char := range string(s) {
		numbers = append(numbers, value.Number(char))
	}
	return numbers
}

func implode(numbers value.Array) value.String {
	var chars []byte
	for _, v := range numbers {
		n := must[value.Number](v)
		if n < 0 || n > utf8.MaxRune || !utf8.ValidRune(rune(n)) {
			panic(failure(value.ErrType))
		}
		chars = utf8.AppendRune(chars, rune(n))
	}
	return value.String(chars)
}

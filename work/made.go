package work

import (
	"slices"

	"spigot/syntax"
	"spigot/value"
)

// made begins a filter that makes values of its own, for an input without a
// path.
func (p place) made(f syntax.Filter, in spot) stream {
	switch f := f.(type) {
	case *syntax.Literal:
		return one(spot{value: f.Value})
	case *syntax.Variable:
		return one(spot{value: p.known.find(asVariable, f.Name, 0).value})
	case *syntax.Collect:
		return worked(func() value.Value { return p.collect(f.Of, in) })
	case *syntax.Build:
		return p.build(f.Members, nil, in)
	case *syntax.Minus:
		return valued(p.open(f.Of, in), func(x value.Value) value.Value {
			return sure(value.Subtract(value.Number(0), x))
		})
	case *syntax.Binary:
		return p.operation(f, in)
	default:
		return none
	}
}

func (p place) collect(f syntax.Filter, in spot) value.Value {
	var items value.Array
	if f == nil {
		return items
	}
	for x := range p.open(f, in).all {
		items = append(items, x.value)
	}
	return items
}

// build gives the objects that have the members that are done and those that
// are still to come.
func (p place) build(coming []syntax.Member, done []value.Member, in spot) stream {
	if len(coming) == 0 {
		return one(spot{value: value.MakeObject(done)})
	}
	return each(p.open(coming[0].Key, in), func(k spot) stream {
		key := string(must[value.String](k.value))
		return each(p.open(coming[0].Value, in), func(x spot) stream {
			with := append(slices.Clip(done), value.Member{Key: key, Value: x.value})
			return p.build(coming[1:], with, in)
		})
	})
}

func (p place) operation(f *syntax.Binary, in spot) stream {
	switch f.Op {
	case "|=":
		return worked(func() value.Value { return p.update(f, in) })
	case "=":
		return valued(p.open(f.Right, in), func(x value.Value) value.Value { return p.assign(f.Left, x, in) })
	case "or", "and":
		return p.logic(f, in)
	default:
		return each(p.open(f.Left, in), func(x spot) stream {
			return valued(p.open(f.Right, in), func(y value.Value) value.Value {
				return operate(x.value, f.Op, y)
			})
		})
	}
}

// logic gives what the left side tells by itself; else what the right side
// tells.
func (p place) logic(f *syntax.Binary, in spot) stream {
	enough := f.Op == "or"
	return each(p.open(f.Left, in), func(x spot) stream {
		if isTrue(x.value) == enough {
			return one(spot{value: value.Bool(enough)})
		}
		return valued(p.open(f.Right, in), func(y value.Value) value.Value {
			return value.Bool(isTrue(y))
		})
	})
}

func isTrue(v value.Value) bool {
	switch v := v.(type) {
	case value.Null:
		return false
	case value.Bool:
		return bool(v)
	default:
		return true
	}
}

func operate(x value.Value, op string, y value.Value) value.Value {
	switch op {
	case "+":
		return sure(value.Add(x, y))
	case "-":
		return sure(value.Subtract(x, y))
	case "*":
		return sure(value.Multiply(x, y))
	case "/":
		return sure(value.Divide(x, y))
	case "%":
		return sure(value.Rest(x, y))
	default:
		return value.Bool(compares(value.Compare(x, y), op))
	}
}

// compares tells whether a comparison holds of two values whose order is c.
func compares(c int, op string) bool {
	switch op {
	case "==":
		return c == 0
	case "!=":
		return c != 0
	case "<":
		return c < 0
	case "<=":
		return c <= 0
	case ">":
		return c > 0
	default:
		return c >= 0
	}
}

// update takes all paths first: what becomes of the values leads to no others.
func (p place) update(f *syntax.Binary, in spot) value.Value {
	var paths []*path
	for x := range p.open(f.Left, rooted(in.value)).all {
		paths = append(paths, x.path)
	}
	v := in.value
	for _, at := range paths {
		steps := at.array()
		old := sure(value.Get(v, steps))
		if x, ok := p.open(f.Right, spot{value: old})(); ok {
			v = sure(value.Set(v, steps, x.value))
		}
	}
	return v
}

func (p place) assign(left syntax.Filter, x value.Value, in spot) value.Value {
	v := in.value
	for at := range p.open(left, rooted(in.value)).all {
		v = sure(value.Set(v, at.path.array(), x))
	}
	return v
}

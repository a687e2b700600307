package work

import (
	"spigot/syntax"
	"spigot/value"
)

// open begins what a filter gives for a value. Where paths are asked for, only
// the filters named here have any; the values of all others are errors.
func (p place) open(f syntax.Filter, in spot) stream {
	switch f := f.(type) {
	case *syntax.Identity:
		return one(in)
	case *syntax.Descent:
		return in.descent()
	case *syntax.Field:
		return mapped(p.open(f.Of, in), func(x spot) spot { return x.at(value.String(f.Name)) })
	case *syntax.Index:
		return each(p.open(f.Of, in), func(x spot) stream {
			return mapped(p.open(f.By, in.plain()), func(i spot) spot { return x.at(i.value) })
		})
	case *syntax.Each:
		return each(p.open(f.Of, in), spot.mustParts)
	case *syntax.Optional:
		return p.attempt(f.Of, nil, in)
	case *syntax.Try:
		return p.attempt(f.Body, f.Catch, in)
	case *syntax.Label:
		return p.label(f, in)
	case *syntax.Break:
		label := p.known.find(asLabel, f.Label, 0)
		return func() (spot, bool) { panic(&ending{kind: broken, label: label}) }
	case *syntax.If:
		return p.condition(f, in)
	case *syntax.Bind:
		return each(p.open(f.Source, in.plain()), func(x spot) stream {
			return p.withVariable(f.Variable, x.value).open(f.Body, in)
		})
	case *syntax.Reduce:
		return p.reduce(f, in)
	case *syntax.Foreach:
		return p.foreach(f, in)
	case *syntax.Def:
		return p.withDef(f).open(f.Rest, in)
	case *syntax.Call:
		return p.named(f, in)
	case *syntax.Binary:
		return p.binary(f, in)
	default:
		return in.pathless(p.made(f, in.plain()))
	}
}

func (p place) binary(f *syntax.Binary, in spot) stream {
	switch f.Op {
	case "|":
		return each(p.open(f.Left, in), func(x spot) stream { return p.open(f.Right, x) })
	case ",":
		return behind(p.open(f.Left, in), func() stream { return p.open(f.Right, in) })
	case "//":
		return p.alternative(f.Left, f.Right, in)
	default:
		return in.pathless(p.made(f, in.plain()))
	}
}

func (p place) condition(f *syntax.If, in spot) stream {
	return each(p.open(f.Condition, in.plain()), func(c spot) stream {
		if isTrue(c.value) {
			return p.open(f.Then, in)
		}
		return p.open(f.Else, in)
	})
}

func (p place) reduce(f *syntax.Reduce, in spot) stream {
	return mapped(p.open(f.Start, in), func(s spot) spot {
		for x := range p.open(f.Source, in.plain()).all {
			s = p.withVariable(f.Variable, x.value).last(f.Step, s)
		}
		return s
	})
}

// last is the last value that a filter gives, null if there is none: no path
// leads to that.
func (p place) last(f syntax.Filter, in spot) spot {
	last, some := spot{value: value.Null{}}, false
	for x := range p.open(f, in).all {
		last, some = x, true
	}
	if in.path != nil && !some {
		panic(failure(errPath))
	}
	return last
}

func (p place) foreach(f *syntax.Foreach, in spot) stream {
	return each(p.open(f.Start, in), func(s spot) stream {
		return each(p.open(f.Source, in.plain()), func(x spot) stream {
			inner := p.withVariable(f.Variable, x.value)
			return each(inner.open(f.Step, s), func(t spot) stream {
				s = t
				return inner.open(f.Give, t)
			})
		})
	})
}

// named begins a filter that is called by its name.
func (p place) named(f *syntax.Call, in spot) stream {
	if called := p.known.find(asFilter, f.Name, len(f.Args)); called != nil {
		return p.call(called, f.Args, in)
	}
	switch f.Name {
	case "empty":
		return none
	case "error":
		return p.failing(f.Args, in)
	case "first":
		return limited(1, p.open(f.Args[0], in))
	case "limit":
		return each(p.open(f.Args[0], in.plain()), func(n spot) stream {
			return limited(must[value.Number](n.value), p.open(f.Args[1], in))
		})
	case "getpath":
		return mapped(p.open(f.Args[0], in.plain()), func(steps spot) spot { return in.along(steps.value) })
	default:
		return in.pathless(p.given(f, in.plain()))
	}
}

func (p place) failing(args []syntax.Filter, in spot) stream {
	values := one(in)
	if len(args) > 0 {
		values = p.open(args[0], in.plain())
	}
	return func() (spot, bool) {
		if x, ok := values(); ok {
			panic(&ending{kind: failed, value: x.value})
		}
		return none()
	}
}

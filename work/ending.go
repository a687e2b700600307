package work

import (
	"errors"

	"spigot/syntax"
	"spigot/value"
)

// ending is how a stream ends otherwise than done. It is thrown (as *ending)
// where that is known, and goes through all the streams that stand around
// until one of them catches it.
type ending struct {
	kind  endKind
	value value.Value // the error's
	label *known      // the one that is left by a break
}

type endKind uint8

const (
	failed endKind = iota
	broken
	tooDeep
)

// errText is what no value is read from, errPath a value that no path leads to.
var (
	errText = errors.New("text")
	errPath = errors.New("path")
)

// failure is the error that has the text of err for its value.
func failure(err error) *ending {
	return &ending{kind: failed, value: value.String(err.Error())}
}

// sure tells the value that there is unless something went wrong.
func sure(v value.Value, err error) value.Value {
	if err != nil {
		panic(failure(err))
	}
	return v
}

// must tells v as a value of the kind K; it is an error where it is of another.
func must[K value.Value](v value.Value) K {
	if k, ok := v.(K); ok {
		return k
	}
	panic(failure(value.ErrType))
}

// pull asks a stream for its next value, and catches what ends it otherwise
// than done.
func pull(s stream) (out spot, ok bool, caught *ending) {
	defer func() {
		switch thrown := recover().(type) {
		case nil:
		case *ending:
			caught = thrown
		default:
			panic(thrown)
		}
	}()
	out, ok = s()
	return out, ok, nil
}

// attempt gives what body gives and, if that ends with an error, then what
// catch gives for the error's value (nothing, if there is no catch). No path
// leads to a value behind catch.
func (p place) attempt(body, catch syntax.Filter, in spot) stream {
	rest := p.open(body, in)
	caught := false
	return func() (spot, bool) {
		if caught {
			return rest()
		}
		out, ok, end := pull(rest)
		if end == nil {
			return out, ok
		}
		if end.kind != failed {
			panic(end)
		}
		caught = true
		rest = none
		if catch != nil {
			rest = in.pathless(p.open(catch, spot{value: end.value}))
		}
		return rest()
	}
}

// alternative gives what left gives but for null and false, up to an error; if
// that is nothing, what right gives.
func (p place) alternative(left, right syntax.Filter, in spot) stream {
	rest := p.open(left, in)
	some, over := false, false
	return func() (spot, bool) {
		for !over {
			out, ok, end := pull(rest)
			switch {
			case end != nil && end.kind != failed:
				panic(end)
			case ok && isTrue(out.value):
				some = true
				return out, true
			case !ok:
				over = true
				rest = none
				if !some {
					rest = p.open(right, in)
				}
			}
		}
		return rest()
	}
}

// label gives what the body gives up to a break of this label. What is known
// of the label is made anew each time, so that no other one's break is taken
// for its own.
func (p place) label(f *syntax.Label, in spot) stream {
	label := &known{use: asLabel, name: f.Name, around: p.known}
	rest := place{label, p.depth}.open(f.Body, in)
	return func() (spot, bool) {
		out, ok, end := pull(rest)
		if end != nil && (end.kind != broken || end.label != label) {
			panic(end)
		}
		return out, ok
	}
}

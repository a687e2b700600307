package work

import "spigot/value"

// spot is a value and, where paths are asked for, the path that leads to it.
type spot struct {
	value value.Value
	path  *path // nil where none is asked for
}

// path is a path's last step and the path ahead of that. One without a path
// ahead of it is the empty one, and has no step.
type path struct {
	ahead *path
	step  value.Value
	steps int
}

// rooted is a value from which paths begin.
func rooted(v value.Value) spot { return spot{v, &path{}} }

// plain is the same value where no path is asked for.
func (s spot) plain() spot { return spot{value: s.value} }

// pathless gives values that no path leads to: where paths are asked for, the
// first one is an error.
func (s spot) pathless(of stream) stream {
	if s.path == nil {
		return of
	}
	return func() (spot, bool) {
		if _, ok := of(); ok {
			panic(failure(errPath))
		}
		return none()
	}
}

func (p *path) grown(step value.Value) *path {
	if p == nil {
		return nil
	}
	return &path{p, step, p.steps + 1}
}

// array tells a path as a value.
func (p *path) array() value.Array {
	steps := make(value.Array, p.steps)
	for ; p.ahead != nil; p = p.ahead {
		steps[p.steps-1] = p.step
	}
	return steps
}

func (s spot) at(step value.Value) spot {
	return spot{sure(value.At(s.value, step)), s.path.grown(step)}
}

// along is what stands at a path from here.
func (s spot) along(steps value.Value) spot {
	for _, step := range must[value.Array](steps) {
		s = s.at(step)
	}
	return s
}

// parts gives the values in an array or an object, in order.
func (s spot) parts() stream {
	next := 0
	switch v := s.value.(type) {
	case value.Array:
		return func() (spot, bool) {
			if next == len(v) {
				return none()
			}
			next++
			return spot{v[next-1], s.path.grown(value.Number(next - 1))}, true
		}
	case value.Object:
		return func() (spot, bool) {
			if next == len(v) {
				return none()
			}
			next++
			m := v[next-1]
			return spot{m.Value, s.path.grown(value.String(m.Key))}, true
		}
	default:
		return none
	}
}

// mustParts is parts of what has to be an array or an object.
func (s spot) mustParts() stream {
	switch s.value.(type) {
	case value.Array, value.Object:
		return s.parts()
	default:
		return func() (spot, bool) { panic(failure(value.ErrType)) }
	}
}

// descent gives a value and all that stand in it. What is begun stands on a
// stack of its own: values may be deeper than calls can stand in each other.
func (s spot) descent() stream {
	begun := []stream{one(s)}
	return func() (spot, bool) {
		for len(begun) > 0 {
			last := len(begun) - 1
			if out, ok := begun[last](); ok {
				begun = append(begun, out.parts())
				return out, true
			}
			begun = begun[:last]
		}
		return none()
	}
}

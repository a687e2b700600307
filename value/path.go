package value

import (
	"slices"
	"strings"

	"spigot/api"
)

// At tells what v has at by: null, if there is nothing.
func At(v, by Value) (Value, error) {
	if !holds(v, by) {
		return nil, ErrType
	}
	switch v := v.(type) {
	case Array:
		if i, ok := v.find(by); ok {
			return v[i], nil
		}
	case Object:
		if i, ok := v.find(by); ok {
			return v[i].Value, nil
		}
	}
	return Null{}, nil
}

// holds tells whether v is of a kind that may have something at by.
func holds(v, by Value) bool {
	_, byString := by.(String)
	_, byNumber := by.(Number)
	switch v.(type) {
	case Null:
		return byString || byNumber
	case Array:
		return byNumber
	case Object:
		return byString
	default:
		return false
	}
}

// find tells the place of the element that a number names, and whether there
// is one; the place may be below 0.
func (a Array) find(by Value) (int, bool) {
	i, _ := by.(Number)
	if i < 0 {
		i += Number(len(a))
	}
	return int(i), 0 <= i && i < Number(len(a))
}

// find tells the place of the member that a string names, or where it would
// stand, and whether there is one.
func (o Object) find(by Value) (int, bool) {
	key, _ := by.(String)
	return slices.BinarySearchFunc(o, string(key), func(m Member, key string) int {
		return strings.Compare(m.Key, key)
	})
}

// Has tells whether v, an array or an object, has something at by. A number
// below 0 names nothing here.
func Has(v, by Value) (bool, error) {
	if _, isNull := v.(Null); isNull || !holds(v, by) {
		return false, ErrType
	}
	if o, ok := v.(Object); ok {
		_, found := o.find(by)
		return found, nil
	}
	a, _ := v.(Array)
	i, _ := by.(Number)
	return 0 <= i && i < Number(len(a)), nil
}

// Get tells what stands at a path in v.
func Get(v Value, path Array) (Value, error) {
	for _, step := range path {
		inner, err := At(v, step)
		if err != nil {
			return nil, err
		}
		v = inner
	}
	return v, nil
}

// Set tells v with x at a path. It goes the path down and builds its way up
// again, as paths may be longer than calls can stand in each other.
func Set(v Value, path Array, x Value) (Value, error) {
	holders := make([]Value, len(path))
	for i, step := range path {
		holder, err := settable(v, step)
		if err != nil {
			return nil, err
		}
		holders[i] = holder
		v, _ = At(holder, step)
	}
	return rebuilt(holders, path, x), nil
}

// settable tells v as something that can be set at a step: null becomes what
// the step asks for.
func settable(v, step Value) (Value, error) {
	if !holds(v, step) {
		return nil, ErrType
	}
	if _, isNull := v.(Null); isNull {
		v = emptyFor(step)
	}
	if a, isArray := v.(Array); isArray {
		if i, _ := a.find(step); i < 0 || i > api.MaxIndex {
			return nil, ErrType
		}
	}
	return v, nil
}

func emptyFor(step Value) Value {
	if _, ok := step.(String); ok {
		return Object{}
	}
	return Array{}
}

// rebuilt puts x back into the innermost holder, that into the next one, and so
// on. Each holder must be one that can be set at its step.
func rebuilt(holders []Value, path Array, x Value) Value {
	for i, holder := range slices.Backward(holders) {
		switch h := holder.(type) {
		case Array:
			x = h.with(path[i], x)
		case Object:
			x = h.with(path[i], x)
		}
	}
	return x
}

func (a Array) with(step, x Value) Array {
	i, _ := a.find(step)
	changed := make(Array, max(len(a), i+1))
	for gap := copy(changed, a); gap < len(changed); gap++ {
		changed[gap] = Null{}
	}
	changed[i] = x
	return changed
}

func (o Object) with(step, x Value) Object {
	key, _ := step.(String)
	i, found := o.find(step)
	changed := slices.Clone(o)
	if found {
		changed[i].Value = x
		return changed
	}
	return slices.Insert(changed, i, Member{string(key), x})
}

// Delete tells v without what stands at a path, v itself if that is nothing.
func Delete(v Value, path Array) (Value, error) {
	if len(path) == 0 {
		return Null{}, nil
	}
	if _, err := Get(v, path); err != nil {
		return nil, err
	}
	last := len(path) - 1
	holders := make([]Value, last)
	inner := v
	for i, step := range path[:last] {
		holders[i] = inner
		inner, _ = At(inner, step)
	}
	left, found := withoutOne(inner, path[last])
	if !found {
		return v, nil
	}
	return rebuilt(holders, path[:last], left), nil
}

// withoutOne tells v without what it has at a step, and whether it has it.
func withoutOne(v, step Value) (Value, bool) {
	switch v := v.(type) {
	case Array:
		if i, found := v.find(step); found {
			return slices.Concat(v[:i], v[i+1:]), true
		}
	case Object:
		if i, found := v.find(step); found {
			return slices.Concat(v[:i], v[i+1:]), true
		}
	}
	return nil, false
}

// Package work works filters out, as far as somebody asks.
package work

import (
	"spigot/api"
	"spigot/syntax"
	"spigot/value"
)

// Stream is what a filter gives for an input, worked out as far as it was
// asked for. Behind its end nothing is left of it but that.
type Stream struct {
	rest stream
	end  api.Answer
}

// Start begins a stream in which definitions may stand in each other as deep
// as depth, within its bounds. It is opened when it is asked for the first
// time: one that nobody asks takes no room, however deep its filter is.
func Start(f syntax.Filter, input value.Value, depth int) *Stream {
	return &Stream{rest: behind(none, func() stream {
		p := place{given(), max(0, min(depth, api.MaxDepth))}
		return p.open(f, spot{value: input})
	})}
}

// Next tells the next value, or how the stream ends: that again and again.
func (s *Stream) Next() api.Answer {
	if s.rest == nil {
		return s.end
	}
	next := answer(pull(s.rest))
	if next.Status != api.Full {
		s.rest, s.end = nil, next
	}
	return next
}

// answer tells what came of a pull. No break comes as far as this: its label
// stands around it.
func answer(out spot, ok bool, end *ending) api.Answer {
	switch {
	case ok:
		return api.Answer{Status: api.Full, Text: value.Canonical(out.value)}
	case end == nil:
		return api.Answer{Status: api.Done}
	case end.kind == failed:
		return api.Answer{Status: api.Failed, Text: value.Canonical(end.value)}
	default:
		return api.Answer{Status: api.Deep}
	}
}

// stream tells its next value, or false when it is done; how it ends otherwise
// is thrown. It works nothing out that the value doesn't need, and nothing
// ahead of the first time it is asked. Behind its end it is not asked again.
type stream func() (spot, bool)

// all goes through the values that are left.
func (s stream) all(yield func(spot) bool) {
	for {
		if x, ok := s(); !ok || !yield(x) {
			return
		}
	}
}

func none() (spot, bool) { return spot{}, false }

func one(s spot) stream {
	given := false
	return func() (spot, bool) {
		if given {
			return none()
		}
		given = true
		return s, true
	}
}

// worked gives one value, which is worked out when it is asked for.
func worked(out func() value.Value) stream {
	given := false
	return func() (spot, bool) {
		if given {
			return none()
		}
		given = true
		return spot{value: out()}, true
	}
}

// each gives, for each value of a stream, what another stream gives.
func each(outer stream, then func(spot) stream) stream {
	inner := stream(none)
	return func() (spot, bool) {
		for {
			if out, ok := inner(); ok {
				return out, true
			}
			x, ok := outer()
			if !ok {
				return none()
			}
			inner = then(x)
		}
	}
}

// mapped gives one value for each value of a stream.
func mapped(outer stream, to func(spot) spot) stream {
	return func() (spot, bool) {
		x, ok := outer()
		if !ok {
			return none()
		}
		return to(x), true
	}
}

// valued is mapped for what has no path.
func valued(outer stream, to func(value.Value) value.Value) stream {
	return mapped(outer, func(x spot) spot { return spot{value: to(x.value)} })
}

// behind gives what first gives, and then what second gives.
func behind(first stream, second func() stream) stream {
	rest, over := first, false
	return func() (spot, bool) {
		if out, ok := rest(); ok || over {
			return out, ok
		}
		rest, over = second(), true
		return rest()
	}
}

// limited gives the first n values and asks for no other one.
func limited(n value.Number, of stream) stream {
	return func() (spot, bool) {
		if n <= 0 {
			return none()
		}
		n--
		return of()
	}
}

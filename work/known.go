package work

import (
	"spigot/syntax"
	"spigot/value"
)

// known is what a name stands for, and what is known around that, the nearest
// first.
type known struct {
	use    use
	name   string
	params int

	value  value.Value   // a variable's
	def    *syntax.Def   // nil, if a parameter was handed over
	handed syntax.Filter // what was handed over
	where  *known        // what was known there

	around *known
}

// use is what a name is known as; the same name may be each of them.
type use uint8

const (
	asVariable use = iota
	asLabel
	asFilter
)

// find is nil for a filter that there is without any definition. All else is
// known, or the filter would have an error.
func (k *known) find(as use, name string, params int) *known {
	for k != nil && (k.use != as || k.name != name || k.params != params) {
		k = k.around
	}
	return k
}

func (k *known) withDef(d *syntax.Def) *known {
	return &known{use: asFilter, name: d.Name, params: len(d.Params), def: d, around: k}
}

func (k *known) withParam(name string, handed syntax.Filter, where *known) *known {
	return &known{use: asFilter, name: name, handed: handed, where: where, around: k}
}

// definitions are those that may be called like the other filters that there
// are.
const definitions = `
def map(f): [.[] | f];
def select(f): if f then . else empty end;
def recurse(f): ., (f | recurse(f));
def until(c; f): if c then . else (f | until(c; f)) end;
def repeat(f): ., (f | repeat(f));
def while(c; f): if c then ., (f | while(c; f)) else empty end;
def isvalid(f): try (f | true) catch false;
def last(f): reduce f as $x (null; $x);
`

// given is what is known around a filter.
func given() *known {
	var around *known
	f, _, _ := syntax.Read(definitions + ".")
	for {
		d, ok := f.(*syntax.Def)
		if !ok {
			return around
		}
		around = around.withDef(d)
		f = d.Rest
	}
}

// place is where a filter is worked out: what is known there, and how deep
// definitions may still stand in each other.
type place struct {
	known *known
	depth int
}

func (p place) withVariable(name string, v value.Value) place {
	p.known = &known{use: asVariable, name: name, value: v, around: p.known}
	return p
}

func (p place) withDef(d *syntax.Def) place {
	p.known = p.known.withDef(d)
	return p
}

// call gives what a definition or a parameter gives. What was handed over is
// worked out with what was known there, but as deep as here.
func (p place) call(called *known, args []syntax.Filter, in spot) stream {
	if called.def == nil {
		return place{called.where, p.depth}.open(called.handed, in)
	}
	if p.depth == 0 {
		return func() (spot, bool) { panic(&ending{kind: tooDeep}) }
	}
	inBody := called
	for i, name := range called.def.Params {
		inBody = inBody.withParam(name, args[i], p.known)
	}
	return place{inBody, p.depth - 1}.open(called.def.Body, in)
}

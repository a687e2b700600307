package syntax

// scope has what is known at a place, the nearest first: a variable, a label
// or a filter of some number of parameters, and what was known around it.
type scope struct {
	of     use
	name   string
	params int
	around *scope
}

// use is what a name is known as; the same name may be each of them.
type use uint8

const (
	asVariable use = iota
	asLabel
	asFilter
)

func (s *scope) with(of use, name string, params int) *scope {
	return &scope{of, name, params, s}
}

func (s *scope) has(of use, name string, params int) bool {
	for ; s != nil; s = s.around {
		if s.of == of && s.name == name && s.params == params {
			return true
		}
	}
	return false
}

// firstUnknown is the place of the first token of a filter that is not known
// where it stands, if there is one.
func firstUnknown(f Filter) (int, bool) {
	c := checker{}
	c.check(nil, f)
	return c.at, c.found
}

// checker goes through a filter in the order of its text, so that what it
// finds first is the first.
type checker struct {
	at    int
	found bool
}

func (c *checker) miss(at int) {
	if !c.found {
		c.at, c.found = at, true
	}
}

func (c *checker) check(known *scope, filters ...Filter) {
	for _, f := range filters {
		if f != nil {
			c.one(known, f)
		}
	}
}

func (c *checker) one(known *scope, f Filter) {
	switch f := f.(type) {
	case *Variable:
		if !known.has(asVariable, f.Name, 0) {
			c.miss(f.At)
		}
	case *Break:
		if !known.has(asLabel, f.Label, 0) {
			c.miss(f.At)
		}
	case *Call:
		if !known.has(asFilter, f.Name, len(f.Args)) && !isGiven(f.Name, len(f.Args)) {
			c.miss(f.At)
		}
		c.check(known, f.Args...)
	case *Field:
		c.check(known, f.Of)
	case *Index:
		c.check(known, f.Of, f.By)
	case *Each:
		c.check(known, f.Of)
	case *Optional:
		c.check(known, f.Of)
	case *Collect:
		c.check(known, f.Of)
	case *Build:
		for _, m := range f.Members {
			c.check(known, m.Key, m.Value)
		}
	case *Binary:
		c.check(known, f.Left, f.Right)
	case *Minus:
		c.check(known, f.Of)
	case *Try:
		c.check(known, f.Body, f.Catch)
	case *If:
		c.check(known, f.Condition, f.Then, f.Else)
	default:
		c.binder(known, f)
	}
}

// binder checks a filter that makes something known to a part of it.
func (c *checker) binder(known *scope, f Filter) {
	switch f := f.(type) {
	case *Bind:
		c.check(known, f.Source)
		c.check(known.with(asVariable, f.Variable, 0), f.Body)
	case *Label:
		c.check(known.with(asLabel, f.Name, 0), f.Body)
	case *Reduce:
		c.check(known, f.Source, f.Start)
		c.check(known.with(asVariable, f.Variable, 0), f.Step)
	case *Foreach:
		c.check(known, f.Source, f.Start)
		c.check(known.with(asVariable, f.Variable, 0), f.Step, f.Give)
	case *Def:
		known = known.with(asFilter, f.Name, len(f.Params))
		inBody := known
		for _, p := range f.Params {
			inBody = inBody.with(asFilter, p, 0)
		}
		c.check(inBody, f.Body)
		c.check(known, f.Rest)
	}
}

// isGiven tells whether there is a filter of this name and number of
// parameters without any definition in the text.
func isGiven(name string, params int) bool {
	switch params {
	case 0:
		switch name {
		case "empty", "error", "not", "type", "length", "keys", "add", "tostring", "tojson",
			"fromjson", "sort", "reverse", "explode", "implode":
			return true
		}
	case 1:
		switch name {
		case "error", "has", "split", "join", "first", "path", "getpath", "delpath",
			"map", "select", "recurse", "repeat", "isvalid", "last":
			return true
		}
	case 2:
		switch name {
		case "range", "limit", "setpath", "until", "while":
			return true
		}
	}
	return false
}

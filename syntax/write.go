package syntax

import "spigot/value"

// Plain tells the plain form of a filter.
func Plain(f Filter) string {
	w := writer{}
	w.filter(f)
	return string(w.out)
}

// writer puts tokens behind each other.
type writer struct {
	out  []byte
	word bool // whether the last token was a word
}

func (w *writer) put(tokens ...string) {
	for _, t := range tokens {
		word := isLetter(t[0]) || isDigit(t[0]) || t[0] == '$'
		if word && w.word {
			w.out = append(w.out, ' ')
		}
		w.out = append(w.out, t...)
		w.word = word
	}
}

func (w *writer) filter(f Filter) {
	switch f := f.(type) {
	case *Identity:
		w.put(".")
	case *Descent:
		w.put("..")
	case *Literal:
		w.put(value.Canonical(f.Value))
	case *Variable:
		w.put("$" + f.Name)
	case *Break:
		w.put("break", "$"+f.Label)
	case *Field, *Index, *Each, *Optional:
		w.postfix(f)
	case *Collect:
		w.put("[")
		if f.Of != nil {
			w.filter(f.Of)
		}
		w.put("]")
	case *Build:
		w.build(f)
	case *Call:
		w.put(f.Name)
		if len(f.Args) > 0 {
			w.list(f.Args)
		}
	case *Reduce:
		w.put("reduce")
		w.primary(f.Source)
		w.put("as", "$"+f.Variable)
		w.list([]Filter{f.Start, f.Step})
	case *Foreach:
		w.put("foreach")
		w.primary(f.Source)
		w.put("as", "$"+f.Variable)
		w.list([]Filter{f.Start, f.Step, f.Give})
	case *If:
		w.put("if")
		w.filter(f.Condition)
		w.put("then")
		w.filter(f.Then)
		w.put("else")
		w.filter(f.Else)
		w.put("end")
	default:
		w.put("(")
		w.open(f)
		w.put(")")
	}
}

// open writes what always stands in round brackets, without these.
func (w *writer) open(f Filter) {
	switch f := f.(type) {
	case *Binary:
		w.filter(f.Left)
		w.put(f.Op)
		w.filter(f.Right)
	case *Minus:
		w.put("-")
		w.filter(f.Of)
	case *Bind:
		w.primary(f.Source)
		w.put("as", "$"+f.Variable, "|")
		w.filter(f.Body)
	case *Label:
		w.put("label", "$"+f.Name, "|")
		w.filter(f.Body)
	case *Try:
		w.put("try")
		w.filter(f.Body)
		if f.Catch != nil {
			w.put("catch")
			w.filter(f.Catch)
		}
	case *Def:
		w.put("def", f.Name)
		w.params(f.Params)
		w.put(":")
		w.filter(f.Body)
		w.put(";")
		w.filter(f.Rest)
	}
}

func (w *writer) params(names []string) {
	for i, p := range names {
		if i == 0 {
			w.put("(", p)
		} else {
			w.put(";", p)
		}
	}
	if len(names) > 0 {
		w.put(")")
	}
}

// primary writes a filter where the grammar asks for a postfix.
func (w *writer) primary(f Filter) {
	switch f.(type) {
	case *Reduce, *Foreach, *If:
		w.put("(")
		w.filter(f)
		w.put(")")
	default:
		w.filter(f)
	}
}

func (w *writer) postfix(f Filter) {
	switch f := f.(type) {
	case *Field:
		if _, ok := f.Of.(*Identity); !ok {
			w.primary(f.Of)
		}
		w.put(".", f.Name)
	case *Index:
		w.primary(f.Of)
		w.put("[")
		w.filter(f.By)
		w.put("]")
	case *Each:
		w.primary(f.Of)
		w.put("[", "]")
	case *Optional:
		w.primary(f.Of)
		w.put("?")
	}
}

func (w *writer) list(filters []Filter) {
	w.put("(")
	for i, f := range filters {
		if i > 0 {
			w.put(";")
		}
		w.filter(f)
	}
	w.put(")")
}

func (w *writer) build(f *Build) {
	w.put("{")
	for i, m := range f.Members {
		if i > 0 {
			w.put(",")
		}
		switch {
		case m.Name != "":
			w.put(m.Name)
		case m.Brackets:
			w.list([]Filter{m.Key})
		default:
			w.filter(m.Key)
		}
		w.put(":")
		w.filter(m.Value)
	}
	w.put("}")
}

package syntax

import (
	"strconv"

	"spigot/api"
	"spigot/value"
)

// Read tells the filter of a text; or ErrFilter, if it is no filter, or
// ErrName, if something in it is not known, and the place.
func Read(s string) (Filter, api.Errno, int) {
	if len(s) > api.MaxText {
		return nil, api.ErrFilter, 0
	}
	r := reader{tokens: readTokens(s)}
	f := r.filter()
	if left := r.tokens[0]; left.kind != kindEnd {
		return nil, api.ErrFilter, left.at
	}
	if at, ok := firstUnknown(f); ok {
		return nil, api.ErrName, at
	}
	return f, api.OK, 0
}

// reader has the tokens that are still to be read. One that cannot stand where
// it stands becomes one of kindNone, which stands nowhere: so all that is
// being read comes to an end there, whatever filter it tells.
type reader struct{ tokens []token }

func (r *reader) take() token {
	t := r.tokens[0]
	r.tokens = r.tokens[1:]
	return t
}

func (r *reader) fail() { r.tokens[0].kind = kindNone }

// accept goes past the sign or word s, if that is at hand.
func (r *reader) accept(s string) bool {
	t := r.tokens[0]
	if t.text != s || t.kind != kindSign && t.kind != kindWord {
		return false
	}
	r.take()
	return true
}

func (r *reader) expect(s string) {
	if !r.accept(s) {
		r.fail()
	}
}

func (r *reader) expectKind(k kind) token {
	if r.tokens[0].kind != k {
		r.fail()
		return token{}
	}
	return r.take()
}

func (r *reader) filter() Filter {
	if r.accept("def") {
		return r.def()
	}
	return r.operation(pipe)
}

func (r *reader) def() Filter {
	d := &Def{Name: r.expectKind(kindName).text}
	if r.accept("(") {
		d.Params = append(d.Params, r.expectKind(kindName).text)
		for r.accept(";") {
			d.Params = append(d.Params, r.expectKind(kindName).text)
		}
		r.expect(")")
	}
	r.expect(":")
	d.Body = r.filter()
	r.expect(";")
	d.Rest = r.filter()
	return d
}

func (r *reader) minus() Filter {
	if r.accept("-") {
		return &Minus{r.minus()}
	}
	return r.bound()
}

func (r *reader) bound() Filter {
	switch {
	case r.accept("label"):
		label := r.expectKind(kindVariable).text
		r.expect("|")
		return &Label{label, r.operation(pipe)}
	case r.accept("try"):
		t := &Try{Body: r.minus()}
		if r.accept("catch") {
			t.Catch = r.minus()
		}
		return t
	case r.accept("reduce"):
		return r.reduce()
	case r.accept("foreach"):
		return r.foreach()
	case r.accept("if"):
		return r.condition()
	}
	f := r.postfix()
	if !r.accept("as") {
		return f
	}
	bound := r.expectKind(kindVariable).text
	r.expect("|")
	return &Bind{f, bound, r.operation(pipe)}
}

func (r *reader) reduce() Filter {
	f := &Reduce{}
	f.Source, f.Variable = r.source()
	f.Start = r.filter()
	r.expect(";")
	f.Step = r.filter()
	r.expect(")")
	return f
}

func (r *reader) foreach() Filter {
	f := &Foreach{}
	f.Source, f.Variable = r.source()
	f.Start = r.filter()
	r.expect(";")
	f.Step = r.filter()
	r.expect(";")
	f.Give = r.filter()
	r.expect(")")
	return f
}

// source reads what stands ahead of the first filter in the brackets of a
// reduce or a foreach.
func (r *reader) source() (Filter, string) {
	f := r.postfix()
	r.expect("as")
	bound := r.expectKind(kindVariable).text
	r.expect("(")
	return f, bound
}

func (r *reader) condition() Filter {
	f := &If{}
	f.Condition = r.filter()
	r.expect("then")
	f.Then = r.filter()
	r.expect("else")
	f.Else = r.filter()
	r.expect("end")
	return f
}

func (r *reader) postfix() Filter {
	f := r.primary()
	for {
		switch {
		case r.accept("."):
			f = &Field{f, r.expectKind(kindName).text}
		case r.accept("["):
			if r.accept("]") {
				f = &Each{f}
				continue
			}
			f = &Index{f, r.filter()}
			r.expect("]")
		case r.accept("?"):
			f = &Optional{f}
		default:
			return f
		}
	}
}

func (r *reader) primary() Filter {
	switch t := r.tokens[0]; t.kind {
	case kindName:
		return r.call()
	case kindVariable:
		r.take()
		return &Variable{t.text, t.at}
	case kindNumber:
		r.take()
		// A token has too few digits for any error.
		n, _ := strconv.ParseInt(t.text, 10, 64)
		return &Literal{value.Number(n)}
	case kindString:
		r.take()
		return &Literal{value.String(t.text)}
	case kindWord:
		return r.wordy()
	default:
		return r.signed()
	}
}

func (r *reader) call() Filter {
	t := r.take()
	f := &Call{Name: t.text, At: t.at}
	if !r.accept("(") {
		return f
	}
	f.Args = append(f.Args, r.filter())
	for r.accept(";") {
		f.Args = append(f.Args, r.filter())
	}
	r.expect(")")
	return f
}

// wordy reads a primary that begins with a word.
func (r *reader) wordy() Filter {
	switch {
	case r.accept("null"):
		return &Literal{value.Null{}}
	case r.accept("false"):
		return &Literal{value.Bool(false)}
	case r.accept("true"):
		return &Literal{value.Bool(true)}
	case r.accept("break"):
		label := r.expectKind(kindVariable)
		return &Break{label.text, label.at}
	}
	r.fail()
	return nil
}

// signed reads a primary that begins with a sign.
func (r *reader) signed() Filter {
	switch {
	case r.accept("."):
		if r.tokens[0].kind == kindName {
			return &Field{&Identity{}, r.take().text}
		}
		return &Identity{}
	case r.accept(".."):
		return &Descent{}
	case r.accept("("):
		f := r.filter()
		r.expect(")")
		return f
	case r.accept("["):
		if r.accept("]") {
			return &Collect{}
		}
		f := &Collect{r.filter()}
		r.expect("]")
		return f
	case r.accept("{"):
		return r.build()
	}
	r.fail()
	return nil
}

func (r *reader) build() Filter {
	f := &Build{}
	if r.accept("}") {
		return f
	}
	f.Members = append(f.Members, r.member())
	for r.accept(",") {
		f.Members = append(f.Members, r.member())
	}
	r.expect("}")
	return f
}

func (r *reader) member() Member {
	m := Member{}
	switch t := r.tokens[0]; {
	case t.kind == kindName:
		r.take()
		m.Name = t.text
		m.Key = &Literal{value.String(t.text)}
	case t.kind == kindString:
		r.take()
		m.Key = &Literal{value.String(t.text)}
	default:
		r.expect("(")
		m.Brackets = true
		m.Key = r.filter()
		r.expect(")")
	}
	r.expect(":")
	m.Value = r.operation(alternative)
	return m
}

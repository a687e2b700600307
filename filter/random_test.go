package filter

import (
	"math/rand"
	"slices"
	"strings"
	"testing"

	"spigot/api"
)

// made is a filter as its tokens and as its plain form; a loose one stands in
// brackets where the grammar asks for a postfix.
type made struct {
	tokens []string
	plain  string
	loose  bool
}

func firm(tokens []string, plain string) made { return made{tokens, plain, false} }

func (m made) tight() made {
	if m.loose {
		m.plain = "(" + m.plain + ")"
		m.loose = false
	}
	return m
}

func (m made) and(tokens ...string) made {
	m.tokens = append(m.tokens[:len(m.tokens):len(m.tokens)], tokens...)
	return m
}

// maker makes filters by the grammar, whose plain forms it knows because it
// made them.
type maker struct {
	*rand.Rand
	variables, labels, filters []string
}

// tail says what may stand last in a filter because of what comes behind it:
// as and label would take an operator, a try without catch a catch.
type tail struct{ bind, try bool }

func (m *maker) pick(of ...string) string { return of[m.Intn(len(of))] }

func (m *maker) filter(size int) made {
	if size < 2 || m.Intn(4) > 0 {
		return m.row(0, size, tail{true, true})
	}
	f := m.pick("f", "g", "length")
	m.filters = append(m.filters, f)
	body := m.filter(size / 2)
	rest := m.filter(size / 2)
	m.filters = m.filters[:len(m.filters)-1]
	return firm(join([]string{"def", f, ":"}, body.tokens, []string{";"}, rest.tokens), "(def "+f+":"+body.plain+";"+rest.plain+")")
}

func join(parts ...[]string) []string {
	var all []string
	for _, p := range parts {
		all = append(all, p...)
	}
	return all
}

// row makes a filter of the grammar's row level, from loose to tight.
func (m *maker) row(level, size int, last tail) made {
	rows := [][]string{{"|"}, {","}, {"//"}, {"|=", "="}, {"or"}, {"and"}, {"==", "!=", "<", "<=", ">", ">="}, {"+", "-"}, {"*", "/", "%"}}
	if level == len(rows) {
		return m.minus(size, last)
	}
	if size < 2 || m.Intn(3) > 0 {
		return m.row(level+1, size, last)
	}
	count := 2
	if level != 3 && level != 6 {
		count += m.Intn(2)
	}
	var sides []made
	var ops []string
	for i := range count {
		end := tail{false, true}
		if i == count-1 {
			end = last
		}
		sides = append(sides, m.row(level+1, size/count, end))
		ops = append(ops, m.pick(rows[level]...))
	}
	tokens := sides[0].tokens
	for i := 1; i < count; i++ {
		tokens = join(tokens, []string{ops[i]}, sides[i].tokens)
	}
	if level == 0 || level == 2 {
		plain := sides[count-1].plain
		for i := count - 1; i > 0; i-- {
			plain = "(" + gap(sides[i-1].plain, ops[i], plain) + ")"
		}
		return firm(tokens, plain)
	}
	plain := sides[0].plain
	for i := 1; i < count; i++ {
		plain = "(" + gap(plain, ops[i], sides[i].plain) + ")"
	}
	return firm(tokens, plain)
}

// gap puts texts behind each other with a blank between two words.
func gap(texts ...string) string {
	const wordy = "abcdefghijklmnopqrstuvwxyz_0123456789"
	all := ""
	for _, t := range texts {
		if all != "" && t != "" && strings.Contains(wordy, all[len(all)-1:]) && strings.Contains(wordy+"$", t[:1]) {
			all += " "
		}
		all += t
	}
	return all
}

func (m *maker) minus(size int, last tail) made {
	if size > 1 && m.Intn(6) == 0 {
		f := m.minus(size-1, last)
		return firm(join([]string{"-"}, f.tokens), "(-"+f.plain+")")
	}
	return m.bound(size, last)
}

func (m *maker) bound(size int, last tail) made {
	if size < 2 {
		return m.postfix(size)
	}
	v := m.pick("x", "y", "if")
	switch m.Intn(9) {
	case 0:
		if last.bind {
			source := m.postfix(size / 2).tight()
			m.variables = append(m.variables, v)
			body := m.row(0, size/2, last)
			m.variables = m.variables[:len(m.variables)-1]
			return firm(join(source.tokens, []string{"as", "$" + v, "|"}, body.tokens), "("+gap(source.plain, "as $"+v+"|")+body.plain+")")
		}
	case 1:
		if last.bind {
			m.labels = append(m.labels, v)
			body := m.row(0, size-1, last)
			m.labels = m.labels[:len(m.labels)-1]
			return firm(join([]string{"label", "$" + v, "|"}, body.tokens), "(label $"+v+"|"+body.plain+")")
		}
	case 2:
		if last.try {
			body := m.minus(size-1, last)
			return firm(join([]string{"try"}, body.tokens), "("+gap("try", body.plain)+")")
		}
	case 3:
		body := m.minus(size/2, tail{last.bind, false})
		handler := m.minus(size/2, last)
		return firm(join([]string{"try"}, body.tokens, []string{"catch"}, handler.tokens), "("+gap("try", body.plain, "catch", handler.plain)+")")
	case 4, 5:
		return m.fold(size, v)
	case 6:
		c, f, g := m.filter(size/3), m.filter(size/3), m.filter(size/3)
		return made{
			join([]string{"if"}, c.tokens, []string{"then"}, f.tokens, []string{"else"}, g.tokens, []string{"end"}),
			gap("if", c.plain, "then", f.plain, "else", g.plain, "end"),
			true,
		}
	}
	return m.postfix(size)
}

func (m *maker) fold(size int, v string) made {
	word := m.pick("reduce", "foreach")
	source, start := m.postfix(size/3).tight(), m.filter(size/3)
	m.variables = append(m.variables, v)
	step, give := m.filter(size/3), m.filter(size/3)
	m.variables = m.variables[:len(m.variables)-1]
	tokens := join([]string{word}, source.tokens, []string{"as", "$" + v, "("}, start.tokens, []string{";"}, step.tokens)
	plain := gap(word, source.plain, "as $"+v+"(") + start.plain + ";" + step.plain
	if word == "foreach" {
		tokens = join(tokens, []string{";"}, give.tokens)
		plain += ";" + give.plain
	}
	return made{append(tokens, ")"), plain + ")", true}
}

func (m *maker) postfix(size int) made {
	f := m.primary(size)
	for m.Intn(3) == 0 {
		f = f.tight()
		switch m.Intn(4) {
		case 0:
			name := m.pick("a", "b", "_c1")
			f = f.and(".", name)
			if f.plain == "." {
				f.plain = ""
			}
			f.plain += "." + name
		case 1:
			g := m.filter(size / 2)
			f = f.and("[").and(g.tokens...).and("]")
			f.plain += "[" + g.plain + "]"
		case 2:
			f = f.and("[", "]")
			f.plain += "[]"
		case 3:
			f = f.and("?")
			f.plain += "?"
		}
	}
	return f
}

func (m *maker) primary(size int) made {
	if size > 1 {
		switch m.Intn(6) {
		case 0:
			f := m.filter(size - 1)
			return firm(join([]string{"["}, f.tokens, []string{"]"}), "["+f.plain+"]")
		case 1:
			return m.build(size)
		case 2:
			f, g := m.filter(size/2), m.filter(size/2)
			return firm(join([]string{"range", "("}, f.tokens, []string{";"}, g.tokens, []string{")"}), "range("+f.plain+";"+g.plain+")")
		case 3, 4:
			f := m.filter(size - 1)
			f.tokens = join([]string{"("}, f.tokens, []string{")"})
			return f
		}
	}
	switch {
	case len(m.variables) > 0 && m.Intn(3) == 0:
		v := "$" + m.pick(m.variables...)
		return firm([]string{v}, v)
	case len(m.labels) > 0 && m.Intn(3) == 0:
		l := "$" + m.pick(m.labels...)
		return firm([]string{"break", l}, "break "+l)
	case len(m.filters) > 0 && m.Intn(3) == 0:
		f := m.pick(m.filters...)
		return firm([]string{f}, f)
	}
	simple := [][2]string{
		{".", "."}, {"..", ".."}, {"7", "7"}, {"007", "7"}, {"null", "null"}, {"false", "false"}, {"true", "true"},
		{`"a"`, `"a"`}, {`"\u0061"`, `"a"`}, {"empty", "empty"},
	}[m.Intn(10)]
	return firm([]string{simple[0]}, simple[1])
}

func (m *maker) build(size int) made {
	all := firm([]string{"{"}, "{")
	count := m.Intn(3)
	for i := range count {
		if i > 0 {
			all = all.and(",")
			all.plain += ","
		}
		switch m.Intn(3) {
		case 0:
			all = all.and("a")
			all.plain += "a"
		case 1:
			all = all.and(`"b"`)
			all.plain += `"b"`
		case 2:
			key := m.filter(size / 4)
			all = all.and("(").and(key.tokens...).and(")")
			all.plain += "(" + key.plain + ")"
		}
		v := m.row(2, size/count, tail{i == count-1, true})
		all = all.and(":").and(v.tokens...)
		all.plain += ":" + v.plain
	}
	all.plain += "}"
	return all.and("}")
}

// spaced puts tokens behind each other, with blanks wherever they may stand
// and, sometimes, none where none need be.
func (m *maker) spaced(tokens []string) string {
	text := ""
	for _, t := range tokens {
		joined := gap(text, t)
		if m.Intn(3) == 0 || strings.HasSuffix(text, ".") && t[0] == '.' {
			joined = text + m.pick(" ", "  ", "\n", "\t\r") + t
		}
		text = joined
	}
	return text
}

func TestMadeFilters(t *testing.T) {
	m := &maker{Rand: rand.New(rand.NewSource(1))}
	asked := 0
	for asked < 5000 {
		f := m.filter(1 + m.Intn(40))
		text := m.spaced(f.tokens)
		if len(text) > api.MaxText || len(f.plain) > api.MaxText {
			continue
		}
		asked++
		expectPlain(t, text, f.plain)
		if t.Failed() {
			return
		}
	}
}

// TestUnknownOfMadeFilters puts a name that nobody knows in the place of a
// number.
func TestUnknownOfMadeFilters(t *testing.T) {
	m := &maker{Rand: rand.New(rand.NewSource(2))}
	asked := 0
	for asked < 3000 {
		tokens := m.filter(1 + m.Intn(40)).tokens
		i := slices.Index(tokens, "7")
		if i < 0 {
			continue
		}
		ahead := m.spaced(tokens[:i]) + " "
		text := ahead + m.pick("$nobody", "nobody", "nobody(.)") + " " + m.spaced(tokens[i+1:])
		if len(text) > api.MaxText {
			continue
		}
		asked++
		expectError(t, text, api.ErrName, len(ahead))
		if t.Failed() {
			return
		}
	}
}

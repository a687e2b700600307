package spigot

import (
	"math/rand"
	"strconv"
	"strings"
	"testing"

	"spigot/api"
	"spigot/filter"
	"spigot/syntax"
)

// maker makes filters in which every name is known.
type maker struct {
	*rand.Rand
	variables, labels []string
	filters           []string // with # for each parameter
}

func (m *maker) pick(of ...string) string { return of[m.Intn(len(of))] }

// leaf makes a filter without others in it.
func (m *maker) leaf() string {
	switch n := m.Intn(20); {
	case n < 3 && len(m.variables) > 0:
		return "$" + m.pick(m.variables...)
	case n == 3 && len(m.labels) > 0:
		return "break $" + m.pick(m.labels...)
	case n < 9:
		return m.pick(".", ".", ".", "..", ".a", ".b", ".[0]", ".[-1]", ".[1]", ".[]", ".[]", ".[]?", ".a?", ".a.b", "..?")
	case n < 15:
		return m.pick("0", "1", "2", "-1", "3", "10", `"a"`, `"b"`, `""`, "null", "false", "true", "[]", "{}", "[1, 2]", "[0]", `["a"]`, "{a: 1}", "(1, 2)", "(0, null)", `("a", "b")`)
	default:
		return m.pick("empty", "error", "not", "type", "length", "keys", "add", "tostring", "tojson", "fromjson", "sort", "reverse", "explode", "implode", "error", "empty", "first(.[])", "range(0; 3)", "path(..)", never)
	}
}

// filter makes a filter that may stand wherever brackets may.
func (m *maker) filter(size int) string {
	if size < 2 {
		return m.leaf()
	}
	half, third := (size-1)/2, (size-1)/3
	switch m.Intn(24) {
	case 0, 1, 2:
		return "(" + m.filter(half) + " | " + m.filter(half) + ")"
	case 3, 4:
		return "(" + m.filter(half) + ", " + m.filter(half) + ")"
	case 5:
		return "(" + m.filter(half) + " // " + m.filter(half) + ")"
	case 6:
		return "(" + m.filter(half) + " " + m.pick("==", "!=", "<", "<=", ">", ">=", "or", "and") + " " + m.filter(half) + ")"
	case 7, 8:
		return "(" + m.filter(half) + " " + m.pick("+", "+", "-", "*", "/", "%") + " " + m.filter(half) + ")"
	case 9:
		return "(" + m.filter(half) + " " + m.pick("|=", "=") + " " + m.filter(half) + ")"
	case 10:
		return "(" + m.filter(half) + ")[" + m.filter(half) + "]"
	case 11:
		return "(" + m.filter(size-1) + ")" + m.pick("[]", "?", ".a", ".b", "[0]", "[]?", "[-1]")
	case 12:
		return "[" + m.filter(size-1) + "]"
	case 13:
		return m.pick("{a: ", `{"b": `, "{("+m.filter(half)+"): ") + m.filter(half) + m.pick("", ", b: "+m.filter(1), ", (\"c\", \"a\"): "+m.filter(1)) + "}"
	case 14:
		return m.bind(half)
	case 15, 16:
		return m.fold(third)
	case 17:
		return "if " + m.filter(third) + " then " + m.filter(third) + " else " + m.filter(third) + " end"
	case 18:
		return "(try (" + m.filter(half) + ")" + m.pick("", " catch ("+m.filter(half)+")") + ")"
	case 19:
		l := m.pick("l", "m")
		m.labels = append(m.labels, l)
		body := m.filter(size - 1)
		m.labels = m.labels[:len(m.labels)-1]
		return "(label $" + l + " | " + body + ")"
	case 20:
		return m.def(third)
	default:
		return m.call(size)
	}
}

func (m *maker) bind(half int) string {
	source := m.filter(half)
	v := m.pick("x", "y")
	m.variables = append(m.variables, v)
	body := m.filter(half)
	m.variables = m.variables[:len(m.variables)-1]
	return "((" + source + ") as $" + v + " | " + body + ")"
}

func (m *maker) fold(third int) string {
	source, start := m.filter(third), m.filter(third)
	v := m.pick("x", "y")
	m.variables = append(m.variables, v)
	step, give := m.filter(third), m.filter(third)
	m.variables = m.variables[:len(m.variables)-1]
	if m.Intn(2) == 0 {
		return "(reduce (" + source + ") as $" + v + " (" + start + "; " + step + "))"
	}
	return "(foreach (" + source + ") as $" + v + " (" + start + "; " + step + "; " + give + "))"
}

func (m *maker) def(third int) string {
	name := m.pick("f", "g", "length")
	params := m.pick("", "(p)", "(p; q)")
	called := name + m.pick("") + map[string]string{"": "", "(p)": "(#)", "(p; q)": "(#; #)"}[params]
	outer := m.filters
	m.filters = append(m.filters[:len(m.filters):len(m.filters)], called)
	inRest := m.filters
	if params != "" {
		m.filters = append(m.filters[:len(m.filters):len(m.filters)], "p")
	}
	if params == "(p; q)" {
		m.filters = append(m.filters, "q")
	}
	body := m.filter(third)
	m.filters = inRest
	rest := m.filter(third)
	m.filters = outer
	return "(def " + name + params + ": " + body + "; " + rest + ")"
}

func (m *maker) call(size int) string {
	of := append([]string{
		"error(#)", "has(#)", `split(#)`, "join(#)", "range(#; #)", "first(#)", "limit(#; #)", "path(#)", "getpath(#)", "setpath(#; #)", "delpath(#)", "path(#)", "limit(2; #)", "getpath(path(#))", "setpath(path(#); #)", "delpath(path(#))",
		"map(#)", "select(#)", "recurse(#)", "until(#; #)", "repeat(#)", "while(#; #)", "isvalid(#)", "last(#)", "first(#)", "path(#)",
	}, m.filters...)
	if len(m.filters) > 0 && m.Intn(2) == 0 {
		of = m.filters
	}
	call := m.pick(of...)
	each := (size - 1) / max(1, strings.Count(call, "#"))
	for strings.Contains(call, "#") {
		call = strings.Replace(call, "#", m.filter(each), 1)
	}
	return call
}

// value makes the text of a value.
func (m *maker) value(size int) string {
	if size < 2 {
		return m.pick("null", "false", "true", "0", "1", "2", "-1", "-7", "9223372036854775807", "-9223372036854775808", `""`, `"a"`, `"b"`, `"é"`, `"[1]"`, `"a,b"`, "[]", "{}")
	}
	count := 1 + m.Intn(3)
	var parts []string
	if m.Intn(2) == 0 {
		for range count {
			parts = append(parts, m.value(size/count))
		}
		return "[" + strings.Join(parts, ",") + "]"
	}
	for i := range count {
		parts = append(parts, strconv.Quote(string("abc"[i]))+":"+m.value(size/count))
	}
	return "{" + strings.Join(parts, ",") + "}"
}

// TestAgainstTheModel asks for what made filters give, in all ways that must
// come to the same. Where the model is tired, what comes behind its values may
// never end: so they must come without that.
func TestAgainstTheModel(t *testing.T) {
	m := &maker{Rand: rand.New(rand.NewSource(3))}
	ends := make(map[string]int)
	several := 0
	for asked := 0; asked < 15000 && !t.Failed(); {
		f, input, depth := m.filter(1+m.Intn(14)), m.value(m.Intn(8)), m.Intn(6)
		tree, e, at := syntax.Read(f)
		if e == api.ErrFilter && len(f) > api.MaxText {
			continue
		}
		if e != api.OK {
			t.Fatal(f, e, at)
		}
		asked++
		want := modelRun(tree, input, depth)
		ends[want.end.kind]++
		if len(want.items) > 1 {
			several++
		}
		againstModel(t, f, input, depth, want)
	}
	for _, kind := range []string{"", "error", "deep", "tired"} {
		if ends[kind] < 200 {
			t.Errorf("only %d streams end with %q", ends[kind], kind)
		}
	}
	if several < 1000 {
		t.Errorf("only %d streams have several values", several)
	}
}

func againstModel(t *testing.T, f, input string, depth int, want list) {
	t.Helper()
	plain, _, _ := filter.Pretty(f)
	all := want.told()
	n := len(want.items)
	if want.end.kind == "tired" {
		all = strings.TrimSuffix(all, "?tired")
	} else {
		for _, text := range []string{f, plain} {
			if got := told(Run(text, input, n+1, depth)); len(text) <= api.MaxText && got != all {
				t.Errorf("Run(%s, %s, %d, %d): %s, want %s", text, input, n+1, depth, got, all)
			}
		}
		if got := pulled(t, f, input, n+1, depth); got != all {
			t.Errorf("pulled of %s, %s, %d, %d: %s, want %s", f, input, n+1, depth, got, all)
		}
		if want.end.kind != "deep" {
			if got := told(Run(f, input, n+1, depth+1)); got != all {
				t.Errorf("Run(%s, %s, %d, %d): %s, want %s", f, input, n+1, depth+1, got, all)
			}
		}
	}
	var texts []string
	for i := range n + 1 {
		if i > 0 {
			texts = append(texts, write(want.items[i-1].value))
		}
		if i > 3 && i < n {
			continue
		}
		for k := depth; k < depth+2; k++ {
			if got := told(Run(f, input, i, k)); got != strings.Join(texts, " ") {
				t.Errorf("Run(%s, %s, %d, %d): %s, want %s", f, input, i, k, got, strings.Join(texts, " "))
			}
		}
	}
}

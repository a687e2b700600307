package spigot

import (
	"bytes"
	"encoding/json"
	"fmt"
	"math/big"
	"sort"
	"strings"

	"spigot/syntax"
	"spigot/value"
)

// The model works filters out as the document says it, word by word, and whole:
// each filter gives a list and how that ends. It knows no laziness: what takes
// too long ends with tired, and nobody knows what would come then. Its values
// are those of encoding/json, numbers as int64.

type ending struct {
	kind  string // "", error, break, deep, tired
	value any
	label *names
}

type spot struct {
	value any
	path  []any // nil where none is asked for
}

type list struct {
	items []spot
	end   ending
}

// names is what is known in the model, the nearest first.
type names struct {
	kind, name string
	params     int
	value      any
	def        *syntax.Def
	arg        syntax.Filter
	where      *names
	around     *names
}

func (n *names) find(kind, name string, params int) *names {
	for ; n != nil; n = n.around {
		if n.kind == kind && n.name == name && n.params == params {
			return n
		}
	}
	return nil
}

type model struct{ fuel int }

// most is how many values a list has before it is tired.
const most = 60

func modelRun(f syntax.Filter, input string, depth int) list {
	var known *names
	for _, d := range []string{
		"def map(f): [.[] | f];", "def select(f): if f then . else empty end;", "def recurse(f): ., (f | recurse(f));", "def until(c; f): if c then . else (f | until(c; f)) end;",
		"def repeat(f): ., (f | repeat(f));", "def while(c; f): if c then ., (f | while(c; f)) else empty end;", "def isvalid(f): try (f | true) catch false;", "def last(f): reduce f as $x (null; $x);",
	} {
		tree, _, _ := syntax.Read(d + ".")
		def := tree.(*syntax.Def)
		known = &names{kind: "filter", name: def.Name, params: len(def.Params), def: def, around: known}
	}
	m := &model{fuel: 20000}
	return m.eval(f, known, spot{value: parse(input)}, depth)
}

func parse(text string) any {
	d := json.NewDecoder(strings.NewReader(text))
	d.UseNumber()
	var v any
	if err := d.Decode(&v); err != nil {
		panic(err)
	}
	return numbered(v)
}

func numbered(v any) any {
	switch v := v.(type) {
	case json.Number:
		n, err := v.Int64()
		if err != nil {
			panic(err)
		}
		return n
	case []any:
		for i := range v {
			v[i] = numbered(v[i])
		}
	case map[string]any:
		for k := range v {
			v[k] = numbered(v[k])
		}
	}
	return v
}

func write(v any) string {
	var b bytes.Buffer
	e := json.NewEncoder(&b)
	e.SetEscapeHTML(false)
	if err := e.Encode(v); err != nil {
		panic(err)
	}
	return strings.TrimSuffix(b.String(), "\n")
}

func one(v any) list        { return list{items: []spot{{value: v}}} }
func failed(v any) list     { return list{end: ending{kind: "error", value: v}} }
func bare(s spot) spot      { return spot{value: s.value} }
func (s spot) pathed() bool { return s.path != nil }
func truth(v any) bool      { return v != nil && v != false }
func (l list) done() bool   { return l.end.kind == "" }
func ended(e ending) list   { return list{end: e} }
func joined(p []any, s any) []any {
	if p == nil {
		return nil
	}
	return append(append([]any{}, p...), s)
}

// each is for each value of l what then gives.
func each(l list, then func(spot) list) list {
	var all list
	for _, x := range l.items {
		part := then(x)
		all.items = append(all.items, part.items...)
		if !part.done() {
			all.end = part.end
			return all.cut()
		}
		if len(all.items) > most {
			return all.cut()
		}
	}
	all.end = l.end
	return all.cut()
}

func (l list) cut() list {
	if len(l.items) > most {
		return list{l.items[:most], ending{kind: "tired"}}
	}
	return l
}

func (l list) then(next func() list) list {
	if !l.done() {
		return l
	}
	r := next()
	return list{append(append([]spot{}, l.items...), r.items...), r.end}.cut()
}

func (l list) first(n int64) list {
	if int64(len(l.items)) >= n {
		return list{items: l.items[:max(n, 0)]}
	}
	return l
}

func (m *model) eval(f syntax.Filter, k *names, in spot, depth int) list {
	m.fuel--
	if m.fuel < 0 {
		return ended(ending{kind: "tired"})
	}
	switch f := f.(type) {
	case *syntax.Identity:
		return list{items: []spot{in}}
	case *syntax.Descent:
		return descend(in).cut()
	case *syntax.Field:
		return each(m.eval(f.Of, k, in, depth), func(x spot) list { return at(x, f.Name) })
	case *syntax.Index:
		return each(m.eval(f.Of, k, in, depth), func(x spot) list {
			return each(m.eval(f.By, k, bare(in), depth), func(i spot) list { return at(x, i.value) })
		})
	case *syntax.Each:
		return each(m.eval(f.Of, k, in, depth), inside)
	case *syntax.Optional:
		return m.try(f.Of, nil, k, in, depth)
	case *syntax.Try:
		return m.try(f.Body, f.Catch, k, in, depth)
	case *syntax.If:
		return each(m.eval(f.Condition, k, bare(in), depth), func(c spot) list {
			if truth(c.value) {
				return m.eval(f.Then, k, in, depth)
			}
			return m.eval(f.Else, k, in, depth)
		})
	case *syntax.Bind:
		return each(m.eval(f.Source, k, bare(in), depth), func(x spot) list {
			return m.eval(f.Body, &names{kind: "variable", name: f.Variable, value: x.value, around: k}, in, depth)
		})
	case *syntax.Label:
		l := &names{kind: "label", name: f.Name, around: k}
		r := m.eval(f.Body, l, in, depth)
		if r.end.kind == "break" && r.end.label == l {
			r.end = ending{}
		}
		return r
	case *syntax.Break:
		return ended(ending{kind: "break", label: k.find("label", f.Label, 0)})
	case *syntax.Reduce:
		return m.reduce(f, k, in, depth)
	case *syntax.Foreach:
		return m.foreach(f, k, in, depth)
	case *syntax.Def:
		return m.eval(f.Rest, &names{kind: "filter", name: f.Name, params: len(f.Params), def: f, around: k}, in, depth)
	case *syntax.Call:
		return m.call(f, k, in, depth)
	case *syntax.Binary:
		switch f.Op {
		case "|":
			return each(m.eval(f.Left, k, in, depth), func(x spot) list { return m.eval(f.Right, k, x, depth) })
		case ",":
			return m.eval(f.Left, k, in, depth).then(func() list { return m.eval(f.Right, k, in, depth) })
		case "//":
			return m.alternative(f, k, in, depth)
		}
	}
	return strange(in, m.plain(f, k, bare(in), depth))
}

// strange is what a filter that has no paths gives.
func strange(in spot, l list) list {
	if in.pathed() && len(l.items) > 0 {
		return failed("path")
	}
	return l
}

func (m *model) try(body, catch syntax.Filter, k *names, in spot, depth int) list {
	r := m.eval(body, k, in, depth)
	if r.end.kind != "error" {
		return r
	}
	err := r.end.value
	r.end = ending{}
	if catch == nil {
		return r
	}
	return r.then(func() list { return strange(in, m.eval(catch, k, spot{value: err}, depth)) })
}

func (m *model) alternative(f *syntax.Binary, k *names, in spot, depth int) list {
	r := m.eval(f.Left, k, in, depth)
	var kept list
	for _, x := range r.items {
		if truth(x.value) {
			kept.items = append(kept.items, x)
		}
	}
	if r.end.kind != "error" {
		kept.end = r.end
	}
	if len(kept.items) > 0 || !kept.done() {
		return kept
	}
	return m.eval(f.Right, k, in, depth)
}

func (m *model) reduce(f *syntax.Reduce, k *names, in spot, depth int) list {
	return each(m.eval(f.Start, k, in, depth), func(s spot) list {
		source := m.eval(f.Source, k, bare(in), depth)
		for _, x := range source.items {
			r := m.eval(f.Step, &names{kind: "variable", name: f.Variable, value: x.value, around: k}, s, depth)
			if !r.done() {
				return ended(r.end)
			}
			if len(r.items) > 0 {
				s = r.items[len(r.items)-1]
			} else if in.pathed() {
				return failed("path")
			} else {
				s = spot{}
			}
		}
		if !source.done() {
			return ended(source.end)
		}
		return list{items: []spot{s}}
	})
}

func (m *model) foreach(f *syntax.Foreach, k *names, in spot, depth int) list {
	return each(m.eval(f.Start, k, in, depth), func(s spot) list {
		return each(m.eval(f.Source, k, bare(in), depth), func(x spot) list {
			inner := &names{kind: "variable", name: f.Variable, value: x.value, around: k}
			return each(m.eval(f.Step, inner, s, depth), func(t spot) list {
				s = t
				return m.eval(f.Give, inner, t, depth)
			})
		})
	})
}

func (m *model) call(f *syntax.Call, k *names, in spot, depth int) list {
	if n := k.find("filter", f.Name, len(f.Args)); n != nil {
		if n.def == nil {
			return m.eval(n.arg, n.where, in, depth)
		}
		if depth == 0 {
			return ended(ending{kind: "deep"})
		}
		inner := n
		for i, p := range n.def.Params {
			inner = &names{kind: "filter", name: p, arg: f.Args[i], where: k, around: inner}
		}
		return m.eval(n.def.Body, inner, in, depth-1)
	}
	plain := func(i int) list { return m.eval(f.Args[i], k, bare(in), depth) }
	switch f.Name {
	case "empty":
		return list{}
	case "error":
		if len(f.Args) == 0 {
			return failed(in.value)
		}
		return each(plain(0), func(x spot) list { return failed(x.value) })
	case "first":
		return m.eval(f.Args[0], k, in, depth).first(1)
	case "limit":
		return each(plain(0), func(n spot) list {
			count, ok := n.value.(int64)
			if !ok {
				return failed("type")
			}
			if count <= 0 {
				return list{}
			}
			return m.eval(f.Args[1], k, in, depth).first(count)
		})
	case "getpath":
		return each(plain(0), func(p spot) list { return along(in, p.value) })
	case "path":
		return strange(in, each(m.eval(f.Args[0], k, spot{in.value, []any{}}, depth), func(x spot) list { return one(x.path) }))
	case "range":
		return strange(in, each(plain(0), func(a spot) list { return each(plain(1), func(b spot) list { return count(a.value, b.value) }) }))
	case "setpath":
		return strange(in, each(plain(0), func(p spot) list { return each(plain(1), func(x spot) list { return set(in.value, p.value, x.value) }) }))
	}
	if len(f.Args) == 1 {
		return strange(in, each(plain(0), func(x spot) list { return given1(f.Name, in.value, x.value) }))
	}
	return strange(in, given0(f.Name, in.value))
}

func (m *model) plain(f syntax.Filter, k *names, in spot, depth int) list {
	switch f := f.(type) {
	case *syntax.Literal:
		return one(parse(value.Canonical(f.Value)))
	case *syntax.Variable:
		return one(k.find("variable", f.Name, 0).value)
	case *syntax.Collect:
		all := []any{}
		if f.Of == nil {
			return one(all)
		}
		r := m.eval(f.Of, k, in, depth)
		if !r.done() {
			return ended(r.end)
		}
		for _, x := range r.items {
			all = append(all, x.value)
		}
		return one(all)
	case *syntax.Build:
		return m.build(f.Members, map[string]any{}, k, in, depth)
	case *syntax.Minus:
		return each(m.eval(f.Of, k, in, depth), func(x spot) list { return operate(int64(0), "-", x.value) })
	}
	b := f.(*syntax.Binary)
	left := func() list { return m.eval(b.Left, k, in, depth) }
	right := func() list { return m.eval(b.Right, k, in, depth) }
	switch b.Op {
	case "or", "and":
		return each(left(), func(x spot) list {
			if truth(x.value) == (b.Op == "or") {
				return one(b.Op == "or")
			}
			return each(right(), func(y spot) list { return one(truth(y.value)) })
		})
	case "|=":
		return m.update(b, k, in, depth)
	case "=":
		return each(right(), func(x spot) list {
			v := in.value
			paths := m.eval(b.Left, k, spot{in.value, []any{}}, depth)
			for _, p := range paths.items {
				r := set(v, p.path, x.value)
				if !r.done() {
					return r
				}
				v = r.items[0].value
			}
			if !paths.done() {
				return ended(paths.end)
			}
			return one(v)
		})
	}
	return each(left(), func(x spot) list {
		return each(right(), func(y spot) list { return operate(x.value, b.Op, y.value) })
	})
}

func (m *model) build(members []syntax.Member, made map[string]any, k *names, in spot, depth int) list {
	if len(members) == 0 {
		return one(made)
	}
	return each(m.eval(members[0].Key, k, in, depth), func(key spot) list {
		name, ok := key.value.(string)
		if !ok {
			return failed("type")
		}
		return each(m.eval(members[0].Value, k, in, depth), func(x spot) list {
			with := map[string]any{}
			for n, v := range made {
				with[n] = v
			}
			with[name] = x.value
			return m.build(members[1:], with, k, in, depth)
		})
	})
}

func (m *model) update(f *syntax.Binary, k *names, in spot, depth int) list {
	paths := m.eval(f.Left, k, spot{in.value, []any{}}, depth)
	if !paths.done() {
		return ended(paths.end)
	}
	v := in.value
	for _, p := range paths.items {
		old := along(spot{value: v}, p.path)
		if !old.done() {
			return old
		}
		r := m.eval(f.Right, k, spot{value: old.items[0].value}, depth).first(1)
		if !r.done() {
			return ended(r.end)
		}
		if len(r.items) > 0 {
			changed := set(v, p.path, r.items[0].value)
			if !changed.done() {
				return changed
			}
			v = changed.items[0].value
		}
	}
	return one(v)
}

func descend(in spot) list {
	all := list{items: []spot{in}}
	for _, x := range inside(in).items {
		all.items = append(all.items, descend(x).items...)
	}
	return all
}

func sortedKeys(o map[string]any) []string {
	keys := []string{}
	for k := range o {
		keys = append(keys, k)
	}
	sort.Strings(keys)
	return keys
}

func inside(in spot) list {
	var all list
	switch v := in.value.(type) {
	case []any:
		for i, x := range v {
			all.items = append(all.items, spot{x, joined(in.path, int64(i))})
		}
	case map[string]any:
		for _, k := range sortedKeys(v) {
			all.items = append(all.items, spot{v[k], joined(in.path, k)})
		}
	default:
		return failed("type")
	}
	return all.cut()
}

func at(in spot, i any) list {
	out := spot{path: joined(in.path, i)}
	number, isNumber := i.(int64)
	key, isString := i.(string)
	switch v := in.value.(type) {
	case nil:
		if !isNumber && !isString {
			return failed("type")
		}
	case []any:
		if !isNumber {
			return failed("type")
		}
		if number < 0 {
			number += int64(len(v))
		}
		if number >= 0 && number < int64(len(v)) {
			out.value = v[number]
		}
	case map[string]any:
		if !isString {
			return failed("type")
		}
		out.value = v[key]
	default:
		return failed("type")
	}
	return list{items: []spot{out}}
}

func along(in spot, path any) list {
	steps, ok := path.([]any)
	if !ok {
		return failed("type")
	}
	all := list{items: []spot{in}}
	for _, s := range steps {
		all = each(all, func(x spot) list { return at(x, s) })
	}
	return all
}

func set(v, path, x any) list {
	steps, ok := path.([]any)
	if !ok {
		return failed("type")
	}
	if len(steps) == 0 {
		return one(x)
	}
	inner := at(spot{value: v}, steps[0])
	if !inner.done() {
		return inner
	}
	deeper := set(inner.items[0].value, steps[1:], x)
	if !deeper.done() {
		return deeper
	}
	x = deeper.items[0].value
	if key, ok := steps[0].(string); ok {
		made := map[string]any{}
		if o, ok := v.(map[string]any); ok {
			for k := range o {
				made[k] = o[k]
			}
		}
		made[key] = x
		return one(made)
	}
	i := steps[0].(int64)
	old, _ := v.([]any)
	if i < 0 {
		i += int64(len(old))
	}
	if i < 0 || i > 10000 {
		return failed("type")
	}
	made := append([]any{}, old...)
	for int64(len(made)) <= i {
		made = append(made, nil)
	}
	made[i] = x
	return one(made)
}

func del(v any, steps []any) list {
	if len(steps) == 0 {
		return one(nil)
	}
	if there := along(spot{value: v}, steps); !there.done() {
		return there
	}
	switch old := v.(type) {
	case []any:
		i := steps[0].(int64)
		if i < 0 {
			i += int64(len(old))
		}
		if i < 0 || i >= int64(len(old)) {
			return one(v)
		}
		made := append([]any{}, old[:i]...)
		if len(steps) > 1 {
			made = append(made, del(old[i], steps[1:]).items[0].value)
		}
		return one(append(made, old[i+1:]...))
	case map[string]any:
		made := map[string]any{}
		for k, x := range old {
			if k != steps[0] {
				made[k] = x
			} else if len(steps) > 1 {
				made[k] = del(x, steps[1:]).items[0].value
			}
		}
		return one(made)
	}
	return one(v)
}

func rank(v any) int {
	switch v := v.(type) {
	case nil:
		return 0
	case bool:
		if v {
			return 2
		}
		return 1
	case int64:
		return 3
	case string:
		return 4
	case []any:
		return 5
	}
	return 6
}

func order(a, b any) int {
	if d := rank(a) - rank(b); d != 0 {
		return d
	}
	switch a := a.(type) {
	case int64:
		return big.NewInt(a).Cmp(big.NewInt(b.(int64)))
	case string:
		return bytes.Compare([]byte(a), []byte(b.(string)))
	case []any:
		b := b.([]any)
		for i := 0; i < len(a) && i < len(b); i++ {
			if c := order(a[i], b[i]); c != 0 {
				return c
			}
		}
		return len(a) - len(b)
	case map[string]any:
		b := b.(map[string]any)
		var halves [2][2][]any
		for i, o := range []map[string]any{a, b} {
			for _, k := range sortedKeys(o) {
				halves[0][i] = append(halves[0][i], k)
				halves[1][i] = append(halves[1][i], o[k])
			}
		}
		if c := order(append([]any{}, halves[0][0]...), append([]any{}, halves[0][1]...)); c != 0 {
			return c
		}
		return order(append([]any{}, halves[1][0]...), append([]any{}, halves[1][1]...))
	}
	return 0
}

func whole(n *big.Int) list {
	if !n.IsInt64() {
		return failed("overflow")
	}
	return one(n.Int64())
}

func operate(x any, op string, y any) list {
	c := order(x, y)
	if i := strings.Index("== != <  <= >  >= ", op+" "); i >= 0 {
		return one([]bool{c == 0, c != 0, c < 0, c <= 0, c > 0, c >= 0}[i/3])
	}
	if a, ok := x.(int64); ok {
		if b, ok := y.(int64); ok {
			m, n := big.NewInt(a), big.NewInt(b)
			switch {
			case op == "+":
				return whole(m.Add(m, n))
			case op == "-":
				return whole(m.Sub(m, n))
			case op == "*":
				return whole(m.Mul(m, n))
			case b == 0:
				return failed("zero")
			case op == "/":
				return whole(m.Quo(m, n))
			default:
				return whole(m.Rem(m, n))
			}
		}
	}
	if op == "+" {
		return sum(x, y)
	}
	a, isArray := x.([]any)
	b, both := y.([]any)
	if op != "-" || !isArray || !both {
		return failed("type")
	}
	left := []any{}
next:
	for _, v := range a {
		for _, w := range b {
			if order(v, w) == 0 {
				continue next
			}
		}
		left = append(left, v)
	}
	return one(left)
}

func sum(x, y any) list {
	switch {
	case x == nil:
		return one(y)
	case y == nil:
		return one(x)
	case rank(x) != rank(y):
		return failed("type")
	}
	switch a := x.(type) {
	case string:
		return one(a + y.(string))
	case []any:
		return one(append(append([]any{}, a...), y.([]any)...))
	case map[string]any:
		made := map[string]any{}
		for k, v := range a {
			made[k] = v
		}
		for k, v := range y.(map[string]any) {
			made[k] = v
		}
		return one(made)
	}
	return failed("type")
}

func count(a, b any) list {
	from, ok := a.(int64)
	to, both := b.(int64)
	if !ok || !both {
		return failed("type")
	}
	var all list
	for ; from < to && len(all.items) <= most; from++ {
		all.items = append(all.items, spot{value: from})
	}
	return all.cut()
}

func given1(name string, v, x any) list {
	s, isString := x.(string)
	number, isNumber := x.(int64)
	text, ofString := v.(string)
	a, ofArray := v.([]any)
	switch name {
	case "has":
		if o, ok := v.(map[string]any); ok && isString {
			_, found := o[s]
			return one(found)
		}
		if ofArray && isNumber {
			return one(number >= 0 && number < int64(len(a)))
		}
	case "split":
		if ofString && isString {
			parts := []any{}
			if text != "" {
				for _, p := range strings.Split(text, s) {
					parts = append(parts, p)
				}
			}
			return one(parts)
		}
	case "join":
		if ofArray && isString {
			out := ""
			for i, p := range a {
				part, ok := p.(string)
				if !ok {
					return failed("type")
				}
				if i > 0 {
					out += s
				}
				out += part
			}
			return one(out)
		}
	case "delpath":
		if steps, ok := x.([]any); ok {
			return del(v, steps)
		}
	default:
		panic(name)
	}
	return failed("type")
}

func given0(name string, v any) list {
	s, isString := v.(string)
	a, isArray := v.([]any)
	o, isObject := v.(map[string]any)
	n, isNumber := v.(int64)
	switch name {
	case "not":
		return one(!truth(v))
	case "type":
		return one([]string{"null", "boolean", "boolean", "number", "string", "array", "object"}[rank(v)])
	case "tojson":
		return one(write(v))
	case "tostring":
		if isString {
			return one(s)
		}
		return one(write(v))
	case "length":
		switch {
		case isNumber:
			return whole(new(big.Int).Abs(big.NewInt(n)))
		case v == nil, isString, isArray, isObject:
			return one(int64(len([]rune(s)) + len(a) + len(o)))
		}
	case "keys":
		keys := []any{}
		for i := range a {
			keys = append(keys, int64(i))
		}
		for _, k := range sortedKeys(o) {
			keys = append(keys, k)
		}
		if isArray || isObject {
			return one(keys)
		}
	case "add":
		parts := inside(spot{value: v})
		if parts.end.kind == "error" {
			return parts
		}
		total := one(nil)
		for _, p := range parts.items {
			total = each(total, func(t spot) list { return operateSum(t.value, p.value) })
		}
		return total
	case "fromjson":
		if isString {
			if !json.Valid([]byte(s)) || strings.ContainsAny(s, ".eE") && !strings.ContainsAny(s, `tfn"`) {
				return failed("text")
			}
			return one(parse(s))
		}
	case "sort", "reverse":
		if isArray {
			made := append([]any{}, a...)
			if name == "sort" {
				sort.SliceStable(made, func(i, j int) bool { return order(made[i], made[j]) < 0 })
				return one(made)
			}
			for i := range a {
				made[i] = a[len(a)-1-i]
			}
			return one(made)
		}
	case "explode":
		if isString {
			numbers := []any{}
			for _, r := range s {
				numbers = append(numbers, int64(r))
			}
			return one(numbers)
		}
	case "implode":
		if isArray {
			out := ""
			for _, x := range a {
				n, ok := x.(int64)
				if !ok || n < 0 || n > 0x10FFFF || n >= 0xD800 && n < 0xE000 {
					return failed("type")
				}
				out += string(rune(n))
			}
			return one(out)
		}
	default:
		panic(name)
	}
	return failed("type")
}

// operateSum is + of any two values.
func operateSum(x, y any) list {
	if rank(x) == 3 && rank(y) == 3 {
		return operate(x, "+", y)
	}
	return sum(x, y)
}

// told is a list as the texts of its values and how it ends.
func (l list) told() string {
	var out []string
	for _, x := range l.items {
		out = append(out, write(x.value))
	}
	s := strings.Join(out, " ")
	switch l.end.kind {
	case "":
		return s + "."
	case "error":
		return s + "!" + write(l.end.value)
	case "deep":
		return s + "~"
	default:
		return fmt.Sprint(s, "?", l.end.kind)
	}
}

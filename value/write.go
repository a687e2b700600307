package value

import "strconv"

// Canonical tells the canonical text of a value. What is begun and not ended
// stands on a stack of its own: values that filters make may be deeper than
// calls can stand in each other.
func Canonical(v Value) string {
	w := writer{}
	w.begin(v)
	for len(w.open) > 0 {
		w.step()
	}
	return string(w.out)
}

type writer struct {
	out  []byte
	open []begun
}

// begun is an array or an object of which some values are written.
type begun struct {
	closing byte
	items   Array
	members Object
	next    int
}

// begin writes a value, or the opening bracket of an array or an object.
func (w *writer) begin(v Value) {
	switch v := v.(type) {
	case Null:
		w.out = append(w.out, "null"...)
	case Bool:
		w.out = strconv.AppendBool(w.out, bool(v))
	case Number:
		w.out = strconv.AppendInt(w.out, int64(v), 10)
	case String:
		w.out = appendString(w.out, string(v))
	case Array:
		w.out = append(w.out, '[')
		w.open = append(w.open, begun{closing: ']', items: v})
	case Object:
		w.out = append(w.out, '{')
		w.open = append(w.open, begun{closing: '}', members: v})
	}
}

// step begins the next value of what is innermost, or ends that.
func (w *writer) step() {
	top := &w.open[len(w.open)-1]
	i := top.next
	if i == len(top.items)+len(top.members) {
		w.out = append(w.out, top.closing)
		w.open = w.open[:len(w.open)-1]
		return
	}
	top.next++
	if i > 0 {
		w.out = append(w.out, ',')
	}
	if top.closing == ']' {
		w.begin(top.items[i])
		return
	}
	w.out = appendString(w.out, top.members[i].Key)
	w.out = append(w.out, ':')
	w.begin(top.members[i].Value)
}

func appendString(out []byte, s string) []byte {
	const hex = "0123456789abcdef"
	out = append(out, '"')
	for i := range len(s) {
		switch c := s[i]; {
		case c == '"' || c == '\\':
			out = append(out, '\\', c)
		case c == '\b':
			out = append(out, `\b`...)
		case c == '\t':
			out = append(out, `\t`...)
		case c == '\n':
			out = append(out, `\n`...)
		case c == '\f':
			out = append(out, `\f`...)
		case c == '\r':
			out = append(out, `\r`...)
		case c < ' ':
			out = append(out, `\u00`...)
			out = append(out, hex[c>>4], hex[c&15])
		default:
			out = append(out, c)
		}
	}
	return append(out, '"')
}

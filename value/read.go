package value

import (
	"slices"
	"strconv"
	"strings"

	"spigot/api"
)

// Read tells the value of a text and 0, or the place where the text goes
// wrong (its length, if it ends too early) and false.
func Read(text string) (Value, int, bool) {
	r := reader{text: text}
	v, ok := r.whole()
	if !ok {
		return nil, r.at, false
	}
	return v, 0, true
}

// reader goes through a text. When one of its methods fails, at is the place
// where the text goes wrong.
type reader struct {
	text string
	at   int
	open []holder
}

// holder is an array or an object whose closing bracket is still to come.
type holder struct {
	closing byte
	items   Array
	members []Member
	key     string
}

// whole reads a value with nothing but blanks around it. What is open stands
// on a stack, so that one loop takes in values and the other what ends behind
// them.
func (r *reader) whole() (Value, bool) {
values:
	for {
		v, ok := r.begin()
		if !ok {
			return nil, false
		}
		if v == nil {
			continue values
		}
		for {
			r.skipBlanks()
			if len(r.open) == 0 {
				return v, r.at == len(r.text)
			}
			top := &r.open[len(r.open)-1]
			top.add(v)
			switch r.next() {
			case ',':
				r.at++
				if top.closing == '}' && !r.readKey() {
					return nil, false
				}
				continue values
			case top.closing:
				v = r.close()
			default:
				return nil, false
			}
		}
	}
}

// next is the byte at hand, or 0 at the end of the text: no token has it, so
// the end fails like a byte that cannot stand there, at its own place.
func (r *reader) next() byte {
	if r.at == len(r.text) {
		return 0
	}
	return r.text[r.at]
}

func (r *reader) skipBlanks() {
	for {
		switch r.next() {
		case ' ', '\t', '\n', '\r':
			r.at++
		default:
			return
		}
	}
}

// begin reads a value, or as much of an array or an object as stands ahead of
// its first value; then the value is nil.
func (r *reader) begin() (Value, bool) {
	r.skipBlanks()
	switch c := r.next(); c {
	case 'n':
		return r.word("null", Null{})
	case 'f':
		return r.word("false", Bool(false))
	case 't':
		return r.word("true", Bool(true))
	case '"':
		s, ok := r.readString()
		return String(s), ok
	case '[':
		return r.beginHolder(']')
	case '{':
		return r.beginHolder('}')
	default:
		if c == '-' || isDigit(c) {
			return r.number()
		}
		return nil, false
	}
}

func (r *reader) word(w string, v Value) (Value, bool) {
	for i := range len(w) {
		if r.next() != w[i] {
			return nil, false
		}
		r.at++
	}
	return v, true
}

// number stops behind a leading 0: a digit there is no part of any number, and
// whoever looks for what follows fails at it.
func (r *reader) number() (Value, bool) {
	start := r.at
	if r.next() == '-' {
		r.at++
	}
	if !isDigit(r.next()) {
		return nil, false
	}
	leading := r.next()
	r.at++
	for leading != '0' && isDigit(r.next()) {
		r.at++
	}
	n, err := strconv.ParseInt(r.text[start:r.at], 10, 64)
	if err != nil {
		r.at = start
		return nil, false
	}
	return Number(n), true
}

func isDigit(c byte) bool { return '0' <= c && c <= '9' }

func (r *reader) readString() (string, bool) {
	s, at, ok := ReadString(r.text, r.at)
	r.at = at
	return s, ok
}

func (r *reader) beginHolder(closing byte) (Value, bool) {
	if len(r.open) == api.MaxNest {
		return nil, false
	}
	r.open = append(r.open, holder{closing: closing})
	r.at++
	r.skipBlanks()
	if r.next() == closing {
		return r.close(), true
	}
	return nil, closing == ']' || r.readKey()
}

// readKey reads a member of the innermost object up to its value.
func (r *reader) readKey() bool {
	r.skipBlanks()
	if r.next() != '"' {
		return false
	}
	key, ok := r.readString()
	if !ok {
		return false
	}
	r.skipBlanks()
	if r.next() != ':' {
		return false
	}
	r.at++
	r.open[len(r.open)-1].key = key
	return true
}

// close goes past the closing bracket of what is innermost.
func (r *reader) close() Value {
	r.at++
	last := len(r.open) - 1
	v := r.open[last].value()
	r.open = r.open[:last]
	return v
}

func (h *holder) add(v Value) {
	if h.closing == ']' {
		h.items = append(h.items, v)
	} else {
		h.members = append(h.members, Member{h.key, v})
	}
}

func (h *holder) value() Value {
	if h.closing == ']' {
		return h.items
	}
	return inOrder(h.members)
}

// inOrder sorts members by their keys; of two with one key the later one
// counts, so the order of these two must last.
func inOrder(members []Member) Object {
	slices.SortStableFunc(members, func(a, b Member) int {
		return strings.Compare(a.Key, b.Key)
	})
	kept := members[:0]
	for i, m := range members {
		if i+1 < len(members) && members[i+1].Key == m.Key {
			continue
		}
		kept = append(kept, m)
	}
	return Object(kept)
}

package syntax

// row is a row of the grammar with operators, from loose to tight.
type row uint8

const (
	noRow row = iota
	pipe
	comma
	alternative
	update
	either
	both
	compare
	sum
	product
)

func rowOf(op string) row {
	switch op {
	case "|":
		return pipe
	case ",":
		return comma
	case "//":
		return alternative
	case "|=", "=":
		return update
	case "or":
		return either
	case "and":
		return both
	case "==", "!=", "<", "<=", ">", ">=":
		return compare
	case "+", "-":
		return sum
	case "*", "/", "%":
		return product
	default:
		return noRow
	}
}

// fromRight tells whether of several operators of a row the last one is worked
// out first.
func (r row) fromRight() bool { return r == pipe || r == alternative }

// once tells whether no second operator of a row stands behind one.
func (r row) once() bool { return r == update || r == compare }

// half is an operator and its left side.
type half struct {
	left Filter
	op   string
	row  row
}

// waits tells whether the right side goes on with an operator of row next.
func (h half) waits(next row) bool {
	return h.row < next || h.row == next && next.fromRight()
}

// operation reads sides and the operators between them, of the row loosest and
// of tighter ones. An operator that cannot stand behind these is left for what
// the operation stands in.
func (r *reader) operation(loosest row) Filter {
	var halves []half
sides:
	for {
		side := r.minus()
		next := r.operator()
		for {
			last := len(halves) - 1
			if last < 0 && next < loosest {
				return side
			}
			if last < 0 || halves[last].waits(next) {
				halves = append(halves, half{side, r.take().text, next})
				continue sides
			}
			if halves[last].row == next && next.once() {
				next = noRow
			}
			side = &Binary{halves[last].left, halves[last].op, side}
			halves = halves[:last]
		}
	}
}

// operator is the row of the operator at hand, if there is one.
func (r *reader) operator() row {
	t := r.tokens[0]
	if t.kind != kindSign && t.kind != kindWord {
		return noRow
	}
	return rowOf(t.text)
}

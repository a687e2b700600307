// Package syntax has filters as trees: it reads their texts, knows which names
// stand for something, and writes their plain forms.
package syntax

import "spigot/value"

// Filter is a filter: a pointer to one of the types below. What a filter may
// do without is nil.
type Filter interface{ isFilter() }

type (
	// Identity is `.`.
	Identity struct{}

	// Descent is `..`.
	Descent struct{}

	// Literal is a number, a string, `null`, `false` or `true`.
	Literal struct{ Value value.Value }

	// Variable is a variable that is asked for.
	Variable struct {
		Name string
		At   int
	}

	// Break is `break $LABEL`; At is the place of the label.
	Break struct {
		Label string
		At    int
	}

	// Field is `.NAME` behind a filter. It is kept apart from an Index by the
	// same string because the plain form does so.
	Field struct {
		Of   Filter
		Name string
	}

	// Index is `f[g]`.
	Index struct{ Of, By Filter }

	// Each is `f[]`.
	Each struct{ Of Filter }

	// Optional is `f?`.
	Optional struct{ Of Filter }

	// Collect is `[f]`; of `[]` it has no filter.
	Collect struct{ Of Filter }

	// Build is `{..}`.
	Build struct{ Members []Member }

	// Call is a definition, a parameter or a given filter that is called.
	Call struct {
		Name string
		Args []Filter
		At   int
	}

	// Binary is an operator with its two sides, `|` and `,` among them.
	Binary struct {
		Left  Filter
		Op    string
		Right Filter
	}

	// Minus is `- f`.
	Minus struct{ Of Filter }

	// Bind is `f as $x | g`.
	Bind struct {
		Source   Filter
		Variable string
		Body     Filter
	}

	// Label is `label $l | f`.
	Label struct {
		Name string
		Body Filter
	}

	// Try is `try f`, or `try f catch g`.
	Try struct{ Body, Catch Filter }

	// Reduce is `reduce f as $x (g ; h)`.
	Reduce struct {
		Source      Filter
		Variable    string
		Start, Step Filter
	}

	// Foreach is `foreach f as $x (g ; h ; e)`.
	Foreach struct {
		Source            Filter
		Variable          string
		Start, Step, Give Filter
	}

	// If is `if c then f else g end`.
	If struct{ Condition, Then, Else Filter }

	// Def is a definition and the filter behind it.
	Def struct {
		Name       string
		Params     []string
		Body, Rest Filter
	}
)

// Member is a member of a Build. Key gives its key, however that is written;
// Name is empty where the key is written as no NAME.
type Member struct {
	Name     string
	Key      Filter
	Brackets bool
	Value    Filter
}

func (*Identity) isFilter() {}
func (*Descent) isFilter()  {}
func (*Literal) isFilter()  {}
func (*Variable) isFilter() {}
func (*Break) isFilter()    {}
func (*Field) isFilter()    {}
func (*Index) isFilter()    {}
func (*Each) isFilter()     {}
func (*Optional) isFilter() {}
func (*Collect) isFilter()  {}
func (*Build) isFilter()    {}
func (*Call) isFilter()     {}
func (*Binary) isFilter()   {}
func (*Minus) isFilter()    {}
func (*Bind) isFilter()     {}
func (*Label) isFilter()    {}
func (*Try) isFilter()      {}
func (*Reduce) isFilter()   {}
func (*Foreach) isFilter()  {}
func (*If) isFilter()       {}
func (*Def) isFilter()      {}

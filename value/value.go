// Package value has the values that filters work on, and reads and writes
// their texts.
package value

import "slices"

// Value is a Null, Bool, Number, String, Array or Object. Streams share
// values, so none is changed once it is made.
type Value interface{ isValue() }

type (
	Null   struct{}
	Bool   bool
	Number int64
	String string
	Array  []Value
)

// Member is a value of an object and the key that it stands under.
type Member struct {
	Key   string
	Value Value
}

// Object has its members by their keys, rising, and each key once.
type Object []Member

// MakeObject tells the object of members in any order; of two with one key the
// later one counts.
func MakeObject(members []Member) Object { return inOrder(slices.Clone(members)) }

func (Null) isValue()   {}
func (Bool) isValue()   {}
func (Number) isValue() {}
func (String) isValue() {}
func (Array) isValue()  {}
func (Object) isValue() {}

// Package value has the values that texts tell.
package value

import "veil/token"

// Kind says what a value is.
type Kind int

// Viewer stands for the id of whoever looks, and only in rules. A Reference, a List and a Fault are only in cells, a Variable only in queries.
const (
	Null Kind = iota
	Number
	String
	True
	False
	Viewer
	Reference
	List
	Fault
	Variable
)

// Value is a value: Number is what a number tells, Text what a string tells, the id that a reference names, or a variable's name.
type Value struct {
	Kind   Kind
	Number int
	Text   string
}

// Read takes a number, a string, `true`, `false` or `null`.
func Read(r *token.Reader) Value {
	t := r.Next()
	switch t.Kind {
	case token.Number:
		return Value{Kind: Number, Number: t.Number}
	case token.String:
		return Value{Kind: String, Text: t.Text}
	case token.Name:
		return word(r, t.Text)
	}
	r.Fail()
	return Value{}
}

func word(r *token.Reader, name string) Value {
	switch name {
	case "true":
		return Value{Kind: True}
	case "false":
		return Value{Kind: False}
	case "null":
		return Value{Kind: Null}
	}
	r.Fail()
	return Value{}
}

// IsScalar tells whether this is a scalar's name.
func IsScalar(name string) bool {
	switch name {
	case "Int", "String", "Boolean", "ID":
		return true
	}
	return false
}

// IsOf tells whether a value is one of this scalar's own. Null is of none: whether it may stand for one is not the scalar's to say.
func (v Value) IsOf(scalar string) bool {
	switch v.Kind {
	case Number:
		return scalar == "Int"
	case String:
		return scalar == "String" || scalar == "ID"
	case True, False:
		return scalar == "Boolean"
	}
	return false
}

// Fits tells whether a value may stand for a scalar: null may if the scalar is not strict.
func (v Value) Fits(scalar string, strict bool) bool {
	if v.Kind == Null {
		return !strict
	}
	return v.IsOf(scalar)
}

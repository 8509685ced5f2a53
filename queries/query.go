// Package queries reads queries: what is asked for, with the values of its variables.
package queries

import (
	"slices"

	"veil/value"
)

// Kind says what a selection is.
type Kind int

const (
	FieldKind Kind = iota
	SpreadKind
	InlineKind
)

// Argument is what a query says to a field.
type Argument struct {
	Name  string
	Value value.Value
}

// Condition leaves out what it stands at if its value is of the kind Drops.
type Condition struct {
	Drops value.Kind
	Value value.Value
}

// Selection is a field, a spread or an inline part. The name is a field's or a fragment's; a field has a key and arguments besides. The part is what stands in it, or in its fragment: nil if there is none.
type Selection struct {
	Kind       Kind
	Key, Name  string
	Arguments  []Argument
	Conditions []Condition
	Part       *Part
}

// Part is what stands between braces. The type is what rows must be of that it is laid open at, empty if they need not be of any. The number is its place among all parts of the query.
type Part struct {
	Type       string
	Number     int
	Selections []Selection
}

// Variable is a variable of an operation: strict, if `!` stands behind its scalar.
type Variable struct {
	Name, Scalar string
	Strict       bool
	HasDefault   bool
	Default      value.Value
}

// Operation is what is asked for.
type Operation struct {
	Variables []Variable
	Part      *Part
}

// Fragment is a part that has a name.
type Fragment struct {
	Name string
	Part *Part
}

// Query has all that a text says. The parts are those of operations, fragments, and all within them.
type Query struct {
	Operations []Operation
	Fragments  []Fragment
	Parts      []*Part
}

// LeftOut tells whether a condition leaves a selection out.
func (s *Selection) LeftOut() bool {
	return slices.ContainsFunc(s.Conditions, func(c Condition) bool { return c.Value.Kind == c.Drops })
}

// asks tells whether two fields ask for the same, but for what stands in them.
func (s *Selection) asks(t *Selection) bool {
	return s.Name == t.Name && slices.Equal(s.Arguments, t.Arguments)
}

// Package schemas reads schemas: which types and roles there are, and who may see what.
package schemas

import (
	"slices"

	"veil/api"
	"veil/value"
)

// Kind says what a name stands for where a type is named.
type Kind int

const (
	Unknown Kind = iota
	ScalarKind
	ObjectKind
	InterfaceKind
	UnionKind
)

// Query is the name of the object at which every query begins.
const Query = "Query"

// Named is what all that has a name is made of.
type Named struct {
	Name string
}

func (n Named) called() string { return n.Name }

// Marked is a name, and the roles that its marks ask for: empty where there is no such mark.
type Marked struct {
	Named
	Auth, Hide string
}

// Argument is what may be said to a field; its name is empty if there is none.
type Argument struct {
	Named
	Scalar string
}

// Field is a field of an object or interface.
type Field struct {
	Marked
	Argument Argument
	Type     *Type
}

// TakesID tells whether a field has an argument `id`: it makes a row by that, and no cell is of it.
func (f *Field) TakesID() bool { return f.Argument.Name == "id" }

// Fielded is what objects and interfaces are made of.
type Fielded struct {
	Named
	Fields []Field
}

// Field tells the field of this name, or nil.
func (f *Fielded) Field(name string) *Field { return find(f.Fields, name) }

// Object is a type of rows. Its rule is nil if there is none.
type Object struct {
	Fielded
	Implements []string
	Rule       *Rule
}

// Interface is a type that objects implement.
type Interface struct {
	Fielded
}

// Union is a type that has objects as members.
type Union struct {
	Named
	Members []string
}

// Role is what a viewer may have.
type Role struct {
	Named
	Includes []string
}

// Schema has all definitions; Names are those of objects, interfaces and unions, in the order of the text.
type Schema struct {
	Roles      []Role
	Objects    []Object
	Interfaces []Interface
	Unions     []Union
	Names      []Named
}

// Read tells what a text defines. The error is ErrSyntax if it is wrongly written, ErrSchema if it is not right.
func Read(text string) (*Schema, api.Errno) {
	s, ok := parse(text)
	if !ok {
		return nil, api.ErrSyntax
	}
	if !s.right() {
		return nil, api.ErrSchema
	}
	return s, api.OK
}

// Role tells the role of this name, or nil.
func (s *Schema) Role(name string) *Role { return find(s.Roles, name) }

// Object tells the object of this name, or nil.
func (s *Schema) Object(name string) *Object { return find(s.Objects, name) }

// Interface tells the interface of this name, or nil.
func (s *Schema) Interface(name string) *Interface { return find(s.Interfaces, name) }

// Union tells the union of this name, or nil.
func (s *Schema) Union(name string) *Union { return find(s.Unions, name) }

// Fields tells the fields of the type of this name: none if it is neither an object nor an interface.
func (s *Schema) Fields(name string) []Field {
	if o := s.Object(name); o != nil {
		return o.Fields
	}
	if i := s.Interface(name); i != nil {
		return i.Fields
	}
	return nil
}

// Field tells a field of the type of this name, or nil.
func (s *Schema) Field(typ, name string) *Field { return find(s.Fields(typ), name) }

// Kind tells what a type's name stands for.
func (s *Schema) Kind(name string) Kind {
	switch {
	case value.IsScalar(name):
		return ScalarKind
	case s.Object(name) != nil:
		return ObjectKind
	case s.Interface(name) != nil:
		return InterfaceKind
	case s.Union(name) != nil:
		return UnionKind
	}
	return Unknown
}

// Had tells the roles that a role has: itself, and those that it includes, by way of others or not. There are none if it is no role.
func (s *Schema) Had(role string) []string {
	at := places(s.Roles)
	place, ok := at[role]
	if !ok {
		return nil
	}
	had := []string{role}
	for i, reached := range s.included(place, at) {
		if reached {
			had = append(had, s.Roles[i].Name)
		}
	}
	return had
}

// Of tells whether an object is of the type of this name.
func (s *Schema) Of(o *Object, name string) bool {
	if o.Name == name || slices.Contains(o.Implements, name) {
		return true
	}
	u := s.Union(name)
	return u != nil && slices.Contains(u.Members, o.Name)
}

// Meet tells whether there is an object that is of both types.
func (s *Schema) Meet(a, b string) bool {
	return slices.ContainsFunc(s.Objects, func(o Object) bool { return s.Of(&o, a) && s.Of(&o, b) })
}

// caller is whatever embeds Named.
type caller interface{ called() string }

func find[T caller](list []T, name string) *T {
	i := slices.IndexFunc(list, func(x T) bool { return x.called() == name })
	if i < 0 {
		return nil
	}
	return &list[i]
}

// places tells where in a list each name stands.
func places[T caller](list []T) map[string]int {
	at := make(map[string]int, len(list))
	for i, x := range list {
		at[x.called()] = i
	}
	return at
}

// distinct tells whether no two of a list have one name.
func distinct[T caller](list []T) bool { return len(places(list)) == len(list) }

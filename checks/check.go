// Package checks tells whether what is asked for can be told at all, as far as the viewer can know.
package checks

import (
	"cmp"

	"veil/queries"
	"veil/schemas"
	"veil/value"
	"veil/views"
)

// The fields that no schema has. All but the first one are at Query alone.
const (
	TypeName = "__typename"
	Types    = "__types"
	Fields   = "__fields"
)

type checker struct {
	schema *schemas.Schema
	view   *views.View
	seen   []bool // for each part of the query, whether it was looked at
}

// Good tells whether the selections of the operation are good at Query. It is asked of queries that are linked and bound.
func Good(s *schemas.Schema, v *views.View, q *queries.Query) bool {
	c := &checker{schema: s, view: v, seen: make([]bool, len(q.Parts))}
	return c.allGood(q.Operations[0].Part, schemas.Query) && q.Agrees()
}

// allGood looks at each part once, though it may be spread many times: wherever it stands, its selections are asked of one and the same type.
func (c *checker) allGood(p *queries.Part, typ string) bool {
	if c.seen[p.Number] {
		return true
	}
	c.seen[p.Number] = true
	for i := range p.Selections {
		if !c.good(&p.Selections[i], typ) {
			return false
		}
	}
	return true
}

func (c *checker) good(s *queries.Selection, typ string) bool {
	for _, condition := range s.Conditions {
		if !condition.Value.Fits("Boolean", true) {
			return false
		}
	}
	if s.Kind == queries.FieldKind {
		return c.fieldGood(s, typ)
	}
	return s.Part != nil && c.partGood(s.Part, typ)
}

// partGood is asked of what a spread or an inline part lays open.
func (c *checker) partGood(p *queries.Part, typ string) bool {
	on := cmp.Or(p.Type, typ)
	return c.schema.Meet(on, typ) && c.allGood(p, on)
}

func (c *checker) fieldGood(s *queries.Selection, typ string) bool {
	if s.Name == TypeName || s.Name == Types && typ == schemas.Query {
		return len(s.Arguments) == 0 && s.Part == nil
	}
	if s.Name == Fields && typ == schemas.Query {
		return len(s.Arguments) == 1 && s.Arguments[0].Name == "type" && s.Arguments[0].Value.Fits("String", true) && s.Part == nil
	}
	f := c.schema.Field(typ, s.Name)
	return f != nil && !c.view.Hidden(f) && argumentsGood(f, s.Arguments) && c.innerGood(f, s.Part)
}

func argumentsGood(f *schemas.Field, list []queries.Argument) bool {
	switch len(list) {
	case 0:
		return !f.TakesID()
	case 1:
		return list[0].Name == f.Argument.Name && list[0].Value.Fits(f.Argument.Scalar, f.TakesID())
	}
	return false
}

func (c *checker) innerGood(f *schemas.Field, p *queries.Part) bool {
	inner := f.Type.Innermost().Name
	if value.IsScalar(inner) {
		return p == nil
	}
	return p != nil && c.allGood(p, inner)
}

// Package views tells what a viewer may see.
package views

import (
	"slices"

	"veil/api"
	"veil/schemas"
	"veil/stores"
	"veil/value"
)

// View is a viewer, with all the roles that theirs has.
type View struct {
	id    string
	roles []string
}

// Of makes the view of a viewer. The error is ErrRole if the viewer's role is none.
func Of(s *schemas.Schema, v api.Viewer) (*View, api.Errno) {
	roles := s.Had(v.Role)
	if len(roles) == 0 {
		return nil, api.ErrRole
	}
	return &View{id: v.ID, roles: roles}, api.OK
}

func (v *View) has(role string) bool { return slices.Contains(v.roles, role) }

// may tells whether the viewer has what a mark asks for.
func (v *View) may(mark string) bool { return mark == "" || v.has(mark) }

// Closed tells whether a field is closed to the viewer.
func (v *View) Closed(f *schemas.Field) bool { return !v.may(f.Auth) }

// Hidden tells whether a field is hidden to the viewer.
func (v *View) Hidden(f *schemas.Field) bool { return !v.may(f.Hide) }

// sees tells whether the viewer sees the cells of a field.
func (v *View) sees(f *schemas.Field) bool { return !v.Closed(f) && !v.Hidden(f) }

// Row tells the row that has this id, or nil: one that is hidden is like one that is not there.
func (v *View) Row(s *stores.Store, id string) *stores.Row {
	r := s.Row(id)
	if r == nil || v.HiddenRow(r) {
		return nil
	}
	return r
}

// HiddenRow tells whether a row is hidden from the viewer.
func (v *View) HiddenRow(r *stores.Row) bool {
	rule := r.Object.Rule
	return rule != nil && !v.holds(rule, r)
}

// holds tells whether a rule is true of a row.
func (v *View) holds(rule *schemas.Rule, r *stores.Row) bool {
	part := func(p *schemas.Rule) bool { return v.holds(p, r) }
	switch rule.Kind {
	case schemas.Or:
		return slices.ContainsFunc(rule.Parts, part)
	case schemas.And:
		return !slices.ContainsFunc(rule.Parts, func(p *schemas.Rule) bool { return !part(p) })
	case schemas.Not:
		return !part(rule.Parts[0])
	case schemas.Is:
		return v.has(rule.Name)
	case schemas.Equal:
		return r.Content(rule.Name).Value == v.meant(rule.Value)
	}
	return true
}

// meant tells the value that a rule's value stands for.
func (v *View) meant(x value.Value) value.Value {
	if x.Kind == value.Viewer {
		return value.Value{Kind: value.String, Text: v.id}
	}
	return x
}

// Rows tells what the viewer sees of a store.
func (v *View) Rows(s *stores.Store) []api.Row {
	var rows []api.Row
	for i := range s.Rows {
		if r := &s.Rows[i]; !v.HiddenRow(r) {
			rows = append(rows, r.Told(v.sees))
		}
	}
	return rows
}

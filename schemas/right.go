package schemas

import (
	"strings"

	"veil/value"
)

func (s *Schema) right() bool {
	return s.rolesRight() && s.namesRight() && s.objectsRight() && s.interfacesRight() && s.unionsRight() && s.queryRight()
}

func (s *Schema) rolesRight() bool {
	at := places(s.Roles)
	if len(at) != len(s.Roles) {
		return false
	}
	for _, r := range s.Roles {
		for _, name := range r.Includes {
			if _, ok := at[name]; !ok {
				return false
			}
		}
	}
	for i := range s.Roles {
		if s.included(i, at)[i] {
			return false
		}
	}
	return true
}

// included tells for each role whether the one at this place includes it, by way of others or not. It goes on from each just once, so that it ends in circles too.
func (s *Schema) included(place int, at map[string]int) []bool {
	reached := make([]bool, len(s.Roles))
	open := []int{place}
	for len(open) > 0 {
		last := len(open) - 1
		r := s.Roles[open[last]]
		open = open[:last]
		for _, name := range r.Includes {
			if next := at[name]; !reached[next] {
				reached[next] = true
				open = append(open, next)
			}
		}
	}
	return reached
}

func (s *Schema) namesRight() bool {
	for _, n := range s.Names {
		if value.IsScalar(n.Name) {
			return false
		}
	}
	return distinct(s.Names)
}

func (s *Schema) objectsRight() bool {
	for i := range s.Objects {
		o := &s.Objects[i]
		if !s.fieldsRight(o.Fields) || !s.implementsRight(o) || o.Rule != nil && !s.ruleRight(o.Rule, o) {
			return false
		}
	}
	return true
}

func (s *Schema) interfacesRight() bool {
	for _, i := range s.Interfaces {
		if !s.fieldsRight(i.Fields) {
			return false
		}
	}
	return true
}

func (s *Schema) unionsRight() bool {
	for _, u := range s.Unions {
		if !s.allOfKind(u.Members, ObjectKind) {
			return false
		}
	}
	return true
}

func (s *Schema) queryRight() bool {
	q := s.Object(Query)
	return q != nil && q.Rule == nil
}

// allOfKind tells whether names stand for this kind of type, and none is there twice.
func (s *Schema) allOfKind(names []string, kind Kind) bool {
	seen := make(map[string]int, len(names))
	for _, name := range names {
		seen[name]++
		if seen[name] > 1 || s.Kind(name) != kind {
			return false
		}
	}
	return true
}

func (s *Schema) fieldsRight(fields []Field) bool {
	for i := range fields {
		if !s.fieldRight(&fields[i]) {
			return false
		}
	}
	return distinct(fields)
}

func (s *Schema) fieldRight(f *Field) bool {
	return !strings.HasPrefix(f.Name, "__") && s.Kind(f.Type.Innermost().Name) != Unknown &&
		s.markRight(f.Auth) && s.markRight(f.Hide) && s.argumentRight(f)
}

func (s *Schema) markRight(role string) bool { return role == "" || s.Role(role) != nil }

func (s *Schema) argumentRight(f *Field) bool {
	switch f.Argument.Name {
	case "id":
		return f.Type.Kind == Single && s.Kind(f.Type.Name) != ScalarKind
	case "first":
		return f.Type.Kind == List
	}
	return true
}

func (s *Schema) implementsRight(o *Object) bool {
	if !s.allOfKind(o.Implements, InterfaceKind) {
		return false
	}
	for _, name := range o.Implements {
		for _, f := range s.Interface(name).Fields {
			if g := o.Field(f.Name); g == nil || !f.same(g) {
				return false
			}
		}
	}
	return true
}

func (f *Field) same(g *Field) bool {
	return f.Marked == g.Marked && f.Argument == g.Argument && f.Type.same(g.Type)
}

func (s *Schema) ruleRight(r *Rule, o *Object) bool {
	switch r.Kind {
	case Is:
		return s.Role(r.Name) != nil
	case Equal:
		return fitsRule(o.Field(r.Name))
	}
	for _, part := range r.Parts {
		if !s.ruleRight(part, o) {
			return false
		}
	}
	return true
}

// fitsRule tells whether a rule may name this field.
func fitsRule(f *Field) bool {
	return f != nil && f.Type.Kind == Single && value.IsScalar(f.Type.Name) && f.Auth == "" && f.Hide == "" && f.Argument.Name == ""
}

package schemas

import "veil/token"

// TypeKind says how a type is written.
type TypeKind int

const (
	Single TypeKind = iota
	List
)

// Type is a field's type: a single one has a name, a list an inner type. Strict says that `!` stands behind it.
type Type struct {
	Named
	Kind   TypeKind
	Inner  *Type
	Strict bool
}

// Innermost tells what stands within all lists.
func (t *Type) Innermost() *Type {
	for t.Kind == List {
		t = t.Inner
	}
	return t
}

// same tells whether two types are written alike.
func (t *Type) same(u *Type) bool {
	if t.Kind != u.Kind || t.Strict != u.Strict {
		return false
	}
	if t.Kind == List {
		return t.Inner.same(u.Inner)
	}
	return t.Name == u.Name
}

func (p *parser) readType() *Type {
	t := &Type{}
	if p.Take(token.OpenList) {
		t.Kind = List
		t.Inner = p.readType()
		p.Need(token.CloseList)
	} else {
		t.Name = p.NeedName()
	}
	t.Strict = p.Take(token.Bang)
	return t
}

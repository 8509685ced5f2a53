package schemas

import "veil/token"

type parser struct {
	*token.Reader
	schema *Schema
}

// parse tells what a text defines, right or not, or false if it is wrongly written.
func parse(text string) (*Schema, bool) {
	p := &parser{Reader: token.Read(text), schema: &Schema{}}
	p.readDefinition()
	for !p.AtEnd() {
		p.readDefinition()
	}
	return p.schema, p.Done()
}

func (p *parser) readDefinition() {
	s := p.schema
	switch p.NeedName() {
	case "role":
		s.Roles = append(s.Roles, p.readRole())
	case "type":
		s.Objects = append(s.Objects, p.readObject())
	case "interface":
		s.Interfaces = append(s.Interfaces, p.readInterface())
	case "union":
		s.Unions = append(s.Unions, p.readUnion())
	default:
		p.Fail()
	}
}

func (p *parser) readNamed() Named { return Named{p.NeedName()} }

// readTypeName keeps the name, since the order of all types is asked for.
func (p *parser) readTypeName() Named {
	n := p.readNamed()
	p.schema.Names = append(p.schema.Names, n)
	return n
}

func (p *parser) readRole() Role {
	r := Role{Named: p.readNamed()}
	if !p.Take(token.Colon) {
		return r
	}
	for p.Sees(token.Name) && !startsDefinition(p.Peek().Text) {
		r.Includes = append(r.Includes, p.NeedName())
	}
	if len(r.Includes) == 0 {
		p.Fail()
	}
	return r
}

func startsDefinition(name string) bool {
	switch name {
	case "role", "type", "interface", "union":
		return true
	}
	return false
}

func (p *parser) readObject() Object {
	o := Object{Fielded: Fielded{Named: p.readTypeName()}}
	if p.TakeWord("implements") {
		o.Implements = append(o.Implements, p.NeedName())
		for p.Sees(token.Name) {
			o.Implements = append(o.Implements, p.NeedName())
		}
	}
	if p.Take(token.At) {
		p.NeedWord("rows")
		p.Need(token.Open)
		o.Rule = p.readRule()
		p.Need(token.Close)
	}
	o.Fields = p.readFields()
	return o
}

func (p *parser) readInterface() Interface {
	i := Interface{Fielded{Named: p.readTypeName()}}
	i.Fields = p.readFields()
	return i
}

func (p *parser) readUnion() Union {
	u := Union{Named: p.readTypeName()}
	p.Need(token.Equals)
	u.Members = append(u.Members, p.NeedName())
	for p.Take(token.Bar) {
		u.Members = append(u.Members, p.NeedName())
	}
	return u
}

func (p *parser) readFields() []Field {
	p.Need(token.OpenBrace)
	fields := []Field{p.readField()}
	for p.Sees(token.Name) {
		fields = append(fields, p.readField())
	}
	p.Need(token.CloseBrace)
	return fields
}

func (p *parser) readField() Field {
	f := Field{Marked: Marked{Named: p.readNamed()}}
	if p.Take(token.Open) {
		f.Argument = p.readArgument()
		p.Need(token.Close)
	}
	p.Need(token.Colon)
	f.Type = p.readType()
	for p.Take(token.At) {
		p.readMark(&f.Marked)
	}
	return f
}

func (p *parser) readArgument() Argument {
	a := Argument{Named: p.readNamed()}
	switch a.Name {
	case "id":
		a.Scalar = "ID"
	case "first":
		a.Scalar = "Int"
	default:
		p.Fail()
	}
	p.Need(token.Colon)
	p.NeedWord(a.Scalar)
	return a
}

func (p *parser) readMark(m *Marked) {
	switch p.NeedName() {
	case "auth":
		p.readMarkRole(&m.Auth)
	case "hide":
		p.readMarkRole(&m.Hide)
	default:
		p.Fail()
	}
}

// readMarkRole fails at a role that is there already: each mark stands at most once.
func (p *parser) readMarkRole(role *string) {
	if *role != "" {
		p.Fail()
	}
	p.Need(token.Open)
	*role = p.NeedName()
	p.Need(token.Close)
}

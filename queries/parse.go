package queries

import (
	"veil/api"
	"veil/token"
	"veil/value"
)

type parser struct {
	*token.Reader
	query *Query
	depth int // of the braces that are open
}

// Read tells what a text asks for, or false if it is wrongly written.
func Read(text string) (*Query, bool) {
	p := &parser{Reader: token.Read(text), query: &Query{}}
	p.readDefinition()
	for !p.AtEnd() {
		p.readDefinition()
	}
	return p.query, p.Done()
}

func (p *parser) readDefinition() {
	q := p.query
	switch {
	case p.Sees(token.OpenBrace):
		q.Operations = append(q.Operations, Operation{Part: p.readPart("")})
	case p.TakeWord("query"):
		q.Operations = append(q.Operations, p.readOperation())
	case p.TakeWord("fragment"):
		q.Fragments = append(q.Fragments, p.readFragment())
	default:
		p.Fail()
	}
}

// readOperation takes what stands behind `query`. Nothing asks for an operation's name.
func (p *parser) readOperation() Operation {
	var o Operation
	p.Take(token.Name)
	if p.Take(token.Open) {
		o.Variables = append(o.Variables, p.readVariable())
		for p.Sees(token.Dollar) {
			o.Variables = append(o.Variables, p.readVariable())
		}
		p.Need(token.Close)
	}
	o.Part = p.readPart("")
	return o
}

func (p *parser) readVariable() Variable {
	p.Need(token.Dollar)
	v := Variable{Name: p.NeedName()}
	p.Need(token.Colon)
	v.Scalar = p.NeedName()
	v.Strict = p.Take(token.Bang)
	v.HasDefault = p.Take(token.Equals)
	if v.HasDefault {
		v.Default = value.Read(p.Reader)
	}
	return v
}

// readFragment takes what stands behind `fragment`.
func (p *parser) readFragment() Fragment {
	if p.SeesWord("on") {
		p.Fail()
	}
	f := Fragment{Name: p.NeedName()}
	p.NeedWord("on")
	f.Part = p.readPart(p.NeedName())
	return f
}

// readPart takes selections with their braces.
func (p *parser) readPart(typ string) *Part {
	part := &Part{Type: typ, Number: len(p.query.Parts)}
	p.query.Parts = append(p.query.Parts, part)
	p.depth++
	if p.depth > api.MaxDepth {
		p.Fail()
	}
	p.Need(token.OpenBrace)
	part.Selections = append(part.Selections, p.readSelection())
	for !p.AtEnd() && !p.Sees(token.CloseBrace) {
		part.Selections = append(part.Selections, p.readSelection())
	}
	p.Need(token.CloseBrace)
	p.depth--
	return part
}

func (p *parser) readSelection() Selection {
	switch {
	case !p.Take(token.Spread):
		return p.readField()
	case p.Sees(token.Name) && !p.SeesWord("on"):
		return Selection{Kind: SpreadKind, Name: p.NeedName(), Conditions: p.readConditions()}
	}
	return p.readInline()
}

// readInline takes what stands behind an inline part's `...`.
func (p *parser) readInline() Selection {
	typ := ""
	if p.TakeWord("on") {
		typ = p.NeedName()
	}
	return Selection{Kind: InlineKind, Conditions: p.readConditions(), Part: p.readPart(typ)}
}

func (p *parser) readField() Selection {
	s := Selection{Kind: FieldKind, Key: p.NeedName()}
	s.Name = s.Key
	if p.Take(token.Colon) {
		s.Name = p.NeedName()
	}
	if p.Take(token.Open) {
		s.Arguments = p.readArguments()
	}
	s.Conditions = p.readConditions()
	if p.Sees(token.OpenBrace) {
		s.Part = p.readPart("")
	}
	return s
}

// readArguments takes what stands behind `(`.
func (p *parser) readArguments() []Argument {
	list := []Argument{p.readArgument()}
	for p.Sees(token.Name) {
		list = append(list, p.readArgument())
	}
	p.Need(token.Close)
	return list
}

func (p *parser) readArgument() Argument {
	a := Argument{Name: p.NeedName()}
	p.Need(token.Colon)
	a.Value = p.readValue()
	return a
}

func (p *parser) readConditions() []Condition {
	var list []Condition
	for p.Take(token.At) {
		list = append(list, p.readCondition())
	}
	return list
}

// readCondition takes what stands behind `@`.
func (p *parser) readCondition() Condition {
	var c Condition
	switch p.NeedName() {
	case "skip":
		c.Drops = value.True
	case "include":
		c.Drops = value.False
	default:
		p.Fail()
	}
	p.Need(token.Open)
	p.NeedWord("if")
	p.Need(token.Colon)
	c.Value = p.readValue()
	p.Need(token.Close)
	return c
}

func (p *parser) readValue() value.Value {
	if p.Take(token.Dollar) {
		return value.Value{Kind: value.Variable, Text: p.NeedName()}
	}
	return value.Read(p.Reader)
}

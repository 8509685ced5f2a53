package schemas

import (
	"veil/token"
	"veil/value"
)

// RuleKind says what a rule, or a part of one, is.
type RuleKind int

const (
	Or RuleKind = iota
	And
	Not
	All
	Is
	Equal
)

// Rule says of which rows it is true. Or, And and Not have parts; the name is the role of Is, the field of Equal.
type Rule struct {
	Named
	Kind  RuleKind
	Parts []*Rule
	Value value.Value
}

func (p *parser) readRule() *Rule { return p.chain(Or, "or", p.readClause) }

func (p *parser) readClause() *Rule { return p.chain(And, "and", p.readUnit) }

// chain takes parts with a word between them.
func (p *parser) chain(kind RuleKind, word string, part func() *Rule) *Rule {
	r := &Rule{Kind: kind, Parts: []*Rule{part()}}
	for p.TakeWord(word) {
		r.Parts = append(r.Parts, part())
	}
	return r
}

func (p *parser) readUnit() *Rule {
	if p.Take(token.Open) {
		r := p.readRule()
		p.Need(token.Close)
		return r
	}
	switch name := p.NeedName(); name {
	case "not":
		return &Rule{Kind: Not, Parts: []*Rule{p.readUnit()}}
	case "all":
		return &Rule{Kind: All}
	case "is":
		return &Rule{Kind: Is, Named: p.readNamed()}
	default:
		p.Need(token.Equals)
		return &Rule{Kind: Equal, Named: Named{name}, Value: p.readValue()}
	}
}

func (p *parser) readValue() value.Value {
	if p.TakeWord("viewer") {
		return value.Value{Kind: value.Viewer}
	}
	return value.Read(p.Reader)
}

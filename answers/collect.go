package answers

import (
	"veil/queries"
	"veil/schemas"
)

// field is what is asked for under a key: the first selection that asks for it, and the parts of all of them.
type field struct {
	*queries.Selection
	parts []*queries.Part
}

// collection has fields in the order of their keys' first places.
type collection struct {
	schema *schemas.Schema
	object *schemas.Object
	fields []field
	places map[string]int // of the fields, by their keys
	seen   []bool         // for each part of the query, whether it was laid open
}

// collect tells the fields that parts ask for at a row of this object.
func (m *maker) collect(o *schemas.Object, parts []*queries.Part) []field {
	c := &collection{schema: m.store.Schema, object: o, places: map[string]int{}, seen: make([]bool, m.parts)}
	for _, p := range parts {
		c.layOpen(p)
	}
	return c.fields
}

// layOpen takes a part just once: again it would ask for nothing new. So fragments that spread others many times over come to an end.
func (c *collection) layOpen(p *queries.Part) {
	if c.seen[p.Number] {
		return
	}
	c.seen[p.Number] = true
	for i := range p.Selections {
		s := &p.Selections[i]
		switch {
		case s.LeftOut():
		case s.Kind == queries.FieldKind:
			c.add(s)
		case s.Part.Type == "" || c.schema.Of(c.object, s.Part.Type):
			c.layOpen(s.Part)
		}
	}
}

func (c *collection) add(s *queries.Selection) {
	place, ok := c.places[s.Key]
	if !ok {
		place = len(c.fields)
		c.places[s.Key] = place
		c.fields = append(c.fields, field{Selection: s})
	}
	if s.Part != nil {
		c.fields[place].parts = append(c.fields[place].parts, s.Part)
	}
}

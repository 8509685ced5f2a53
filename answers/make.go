package answers

import (
	"strconv"

	"veil/checks"
	"veil/queries"
	"veil/schemas"
	"veil/stores"
	"veil/value"
)

// object makes what the selections of some parts make at a row.
func (m *maker) object(r *stores.Row, parts []*queries.Part) made {
	how := whole
	m.write("{")
	for i, f := range m.collect(r.Object, parts) {
		if !m.step() {
			return broken
		}
		if i > 0 {
			m.write(",")
		}
		key := `"` + f.Key + `"`
		end := m.enter(key)
		m.write(key + ":")
		if !m.field(r, f) {
			how = broken
		}
		m.leave(end)
	}
	m.write("}")
	return how
}

// list makes a list of values.
func (m *maker) list(items []stores.Content, t *schemas.Type, parts []*queries.Part) made {
	how := whole
	m.write("[")
	for i, c := range items {
		if !m.step() {
			return broken
		}
		if i > 0 {
			m.write(",")
		}
		end := m.enter(strconv.Itoa(i))
		start := len(m.data)
		if !m.settle(start, m.value(c, t, parts), t.Strict) {
			how = broken
		}
		m.leave(end)
	}
	m.write("]")
	return how
}

// value makes a value by a type.
func (m *maker) value(c stores.Content, t *schemas.Type, parts []*queries.Part) made {
	switch c.Kind {
	case value.Null:
		return empty
	case value.Fault:
		return m.fail()
	case value.Reference:
		return m.row(m.view.Row(m.store, c.Text), parts)
	case value.List:
		return m.list(c.Items, t.Inner, parts)
	}
	m.scalar(c.Value)
	return whole
}

// row makes a row, if there is one.
func (m *maker) row(r *stores.Row, parts []*queries.Part) made {
	if r == nil {
		return m.fail()
	}
	return m.object(r, parts)
}

// field makes a field of a row, and tells whether the row's object may stay.
func (m *maker) field(r *stores.Row, f field) bool {
	switch f.Name {
	case checks.TypeName:
		m.data = quoted(m.data, r.Object.Name)
		return true
	case checks.Types:
		m.types()
		return true
	case checks.Fields:
		m.fields(f.Arguments[0].Value.Text)
		return true
	}
	d := r.Object.Field(f.Name)
	start := len(m.data)
	return m.settle(start, m.told(r, d, f), d.Type.Strict)
}

// told makes what a row tells at a field that its schema defines.
func (m *maker) told(r *stores.Row, d *schemas.Field, f field) made {
	if m.view.Closed(d) {
		return m.fail()
	}
	if d.TakesID() {
		return m.row(m.asked(f.Arguments[0].Value.Text, d.Type.Name), f.parts)
	}
	c := r.Content(d.Name)
	if len(f.Arguments) > 0 {
		c.Items = first(c.Items, f.Arguments[0].Value)
	}
	return m.value(c, d.Type, f.parts)
}

// asked tells the row that has this id if the viewer may get it where a type is asked for, or nil.
func (m *maker) asked(id, typ string) *stores.Row {
	r := m.view.Row(m.store, id)
	if r == nil || r.Object.Name == schemas.Query || !m.store.Schema.Of(r.Object, typ) {
		return nil
	}
	return r
}

// first tells the first items, so many as the value says: all if it is null.
func first(items []stores.Content, n value.Value) []stores.Content {
	if n.Kind == value.Null {
		return items
	}
	return items[:min(len(items), max(0, n.Number))]
}

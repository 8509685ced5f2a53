package answers

import (
	"veil/queries"
	"veil/schemas"
	"veil/stores"
	"veil/views"
)

// maker makes an answer: data, errors and path are written as the answer tells them.
type maker struct {
	store  *stores.Store
	view   *views.View
	parts  int // how many the query has
	left   int // of the budget: below 0 once it is overdrawn
	data   []byte
	errors []byte
	path   []byte
}

// made says what has become of a value: one that is null is broken if something failed in it, else empty.
type made int

const (
	whole made = iota
	empty
	broken
)

// all makes all that is asked for.
func (m *maker) all(p *queries.Part) {
	r := m.store.Row("")
	if r == nil {
		r = &stores.Row{Object: m.store.Schema.Object(schemas.Query)}
	}
	m.settle(0, m.object(r, []*queries.Part{p}), false)
}

func (m *maker) answer() string {
	text := `{"data":` + string(m.data)
	if len(m.errors) > 0 {
		text += `,"errors":[` + string(m.errors) + `]`
	}
	return text + "}"
}

// step takes a step, and tells whether the budget had one left. Once it had not, nothing more need be made.
func (m *maker) step() bool {
	m.left--
	return m.left >= 0
}

func (m *maker) fail() made {
	if len(m.errors) > 0 {
		m.errors = append(m.errors, ',')
	}
	m.errors = append(m.errors, `{"message":"not available","path":[`...)
	m.errors = append(m.errors, m.path...)
	m.errors = append(m.errors, "]}"...)
	return broken
}

// enter puts something behind the path, and tells where that ended before.
func (m *maker) enter(text string) int {
	end := len(m.path)
	if end > 0 {
		m.path = append(m.path, ',')
	}
	m.path = append(m.path, text...)
	return end
}

func (m *maker) leave(end int) { m.path = m.path[:end] }

// settle ends a value whose text starts there, and tells whether what stands around it may stay.
func (m *maker) settle(start int, how made, strict bool) bool {
	if how == whole {
		return true
	}
	m.data = append(m.data[:start], "null"...)
	if how == empty && strict {
		m.fail()
	}
	return !strict
}

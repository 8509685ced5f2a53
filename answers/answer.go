// Package answers answers asks.
package answers

import (
	"veil/api"
	"veil/checks"
	"veil/queries"
	"veil/stores"
	"veil/views"
)

// Answer tells the answer to an ask of a store, or the first thing that is wrong with the ask.
func Answer(s *stores.Store, a api.Ask) string {
	query, written := queries.Read(a.Query)
	values, given := queries.ReadValues(a.Values)
	if !written || !given {
		return refused("syntax")
	}
	view, e := views.Of(s.Schema, a.Viewer)
	if e != api.OK {
		return refused("role")
	}
	if len(query.Operations) != 1 {
		return refused("operation")
	}
	if !query.Link() {
		return refused("fragment")
	}
	if !query.Bind(values) {
		return refused("variable")
	}
	if !checks.Good(s.Schema, view, query) {
		return refused("selection")
	}
	if a.Budget < 0 || a.Budget > api.MaxBudget {
		return refused("budget")
	}
	m := &maker{store: s, view: view, parts: len(query.Parts), left: a.Budget}
	m.all(query.Operations[0].Part)
	if m.left < 0 {
		return refused("budget")
	}
	return m.answer()
}

func refused(message string) string { return `{"errors":[{"message":"` + message + `"}]}` }

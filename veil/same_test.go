package veil

import (
	"maps"
	"slices"
	"testing"

	"veil/api"
)

// wantSame: two stores of which a viewer sees the same answer a query alike, and so does what the viewer sees.
func wantSame(t *testing.T, schema string, v api.Viewer, one, two []api.Row, queries ...string) {
	t.Helper()
	seen, e := Sees(schema, one, v)
	other, f := Sees(schema, two, v)
	if e != api.OK || f != api.OK || !sameRows(seen, other) {
		t.Fatalf("%q sees %s, %d and %s, %d", v, told(seen), e, told(other), f)
	}
	a, b, c := serverOf(t, schema, one...), serverOf(t, schema, two...), serverOf(t, schema, seen...)
	for _, q := range queries {
		for _, budget := range []int{api.MaxBudget, 3, 1} {
			x := api.Ask{Viewer: v, Query: q, Values: litValues, Budget: budget}
			want := a.Serve(x)
			wantServe(t, b, x, want)
			wantServe(t, c, x, want)
		}
	}
}

func TestSameIsAnsweredAlike(t *testing.T) {
	const schema = `role user role boss: user interface N { id: ID! } union U = P | Q
type Query { p(id: ID): P n(id: ID): N u(id: ID): U! l: [N!] m: [U] one: P! shut: [P!]! @auth(boss) gone: P! @hide(boss) get(id: ID): P! @auth(boss) }
type P implements N @rows(owner = viewer or open = true) { id: ID! owner: ID open: Boolean pal: P must: P! pay: Int! @auth(boss) friends(first: Int): [P] @auth(boss) note: String @hide(boss) more: [[Int!]!]! @hide(boss) @auth(boss) }
type Q implements N @rows(is boss) { id: ID! p: P }`
	v := api.Viewer{Role: "user", ID: "me"}
	queries := []string{"{l{id __typename}m{__typename...on N{id}}one{id}}", "{one{pal{id}must{id}}}", "{shut{id}one{id}}", `{get(id:"h"){id}}`, `{get(id:"none"){id}}`, `{a:p(id:"h"){id}b:p(id:"x"){id}c:p(id:"q"){id}d:p(id:"y"){id}}`, `{n(id:"q"){id}}`, `{u(id:"h"){__typename}}`, `{u(id:"x"){__typename}}`, "{one{pay}}", "{one{friends{id}owner}}", "{one{friends(first:0){id}}}", "{gone{id}}", "{one{note}}", "{one{more}}", `{__fields(type:"P")__types}`, "{m{...on Q{p{id}}...on P{must{must{pay}}}}}"}
	query := row("Query", "", "l", `[@"s" @"h" @"q"]`, "m", `[@"q" @"h" @"s" @"x" null !]`, "one", `@"s"`)
	me := row("P", "s", "id", `"s"`, "owner", `"me"`, "pal", `@"h"`, "must", `@"x"`)
	full := rows(row("Query", "", append(cellsOf(query), "shut", `[@"s" @"none" null @"s"]`, "gone", `@"s"`)...), row("P", "s", append(cellsOf(me), "pay", "7", "friends", `[@"s" @"h" !]`, "note", `"x"`, "more", "[[1 null] null]")...),
		row("P", "h", "id", `"h"`, "owner", `"you"`, "pal", `@"s"`, "pay", "!"), row("Q", "q", "id", `"q"`, "p", `@"s"`))
	for _, other := range [][]api.Row{
		rows(query, me),
		rows(row("Q", "y"), query, row("P", "h"), me, row("P", "x", "open", "false")),
		rows(query, row("Q", "q"), me, row("P", "h", "owner", "!", "must", `@"h"`)),
		rows(row("Query", "", append(cellsOf(query), "shut", "!", "gone", "!")...), row("P", "s", append(cellsOf(me), "pay", "!", "friends", "null", "note", "!", "more", "[]")...)),
		rows(row("Query", "", append(cellsOf(query), "shut", "[]")...), row("P", "x"), row("P", "s", append(cellsOf(me), "friends", "[]", "more", "null")...)),
	} {
		wantSame(t, schema, v, full, other, queries...)
	}
}

func cellsOf(r api.Row) []string {
	var list []string
	for _, c := range r.Cells {
		list = append(list, c.Name, c.Text)
	}
	return list
}

// changed is a store in which something is there no more, or besides, or otherwise: it may be what a viewer does not see.
func (d *dice) changed(s litSchema, have []litRow) []litRow {
	var list []litRow
	for _, r := range have {
		if r.cells = maps.Clone(r.cells); !d.in100(20) || r.id == "" {
			list = append(list, r)
		}
	}
	for _, id := range litIDs {
		if d.in100(25) && !slices.ContainsFunc(list, func(r litRow) bool { return r.id == id }) {
			list = append(list, litRow{typ: pick(d, "A", "B"), id: id, cells: map[string]litValue{}})
		}
	}
	for _, r := range list {
		for _, f := range s.def(r.typ).fields {
			if f.arg != "id" && (f.auth != "" || f.hide != "") && d.in100(50) {
				r.cells[f.name] = d.content(s, list, f.typ)
			}
		}
	}
	return list
}

// TestSameIsAnsweredAlikeEverywhere holds random stores against others of which a viewer sees the same.
func TestSameIsAnsweredAlikeEverywhere(t *testing.T) {
	d := dice(2)
	same := 0
	for range 150 {
		schema := d.schema()
		have := d.rows(schema)
		v := api.Viewer{Role: pick(&d, "user", "boss", "aide"), ID: pick(&d, "me", "you")}
		seen, e := Sees(schema.text(), litTold(have), v)
		if e != api.OK {
			t.Fatalf("Sees: error %d", e)
		}
		var queries []string
		for range 8 {
			text, _, _ := d.query(schema)
			queries = append(queries, text)
		}
		wantSame(t, schema.text(), v, litTold(have), seen, queries...)
		for range 5 {
			other := litTold(d.changed(schema, have))
			if again, e := Sees(schema.text(), other, v); e == api.OK && sameRows(seen, again) {
				same++
				wantSame(t, schema.text(), v, litTold(have), other, queries...)
			}
		}
	}
	if same < 100 {
		t.Errorf("only %d stores look the same as another", same)
	}
}

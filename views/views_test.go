package views

import (
	"testing"

	"veil/api"
	"veil/schemas"
	"veil/stores"
)

const text = "role user role boss: user type Query { a: Int auth: Int @auth(boss) hide: Int @hide(boss) both: Int @auth(user) @hide(boss) } type P @rows(is boss or s = viewer) { s: String }"

func read(t *testing.T, rows ...api.Row) (*schemas.Schema, *stores.Store) {
	t.Helper()
	s, e := schemas.Read(text)
	if e != api.OK {
		t.Fatalf("schema: error %d", e)
	}
	store, e := stores.Read(s, rows)
	if e != api.OK {
		t.Fatalf("store: error %d", e)
	}
	return s, store
}

func TestFields(t *testing.T) {
	s, _ := read(t)
	q := s.Object(schemas.Query)
	for _, c := range []struct {
		role, field    string
		closed, hidden bool
	}{
		{"user", "a", false, false}, {"user", "auth", true, false}, {"user", "hide", false, true}, {"user", "both", false, true},
		{"boss", "a", false, false}, {"boss", "auth", false, false}, {"boss", "hide", false, false}, {"boss", "both", false, false},
	} {
		v, e := Of(s, api.Viewer{Role: c.role})
		if f := q.Field(c.field); e != api.OK || v.Closed(f) != c.closed || v.Hidden(f) != c.hidden {
			t.Errorf("to %s %s is closed %v, hidden %v, error %d", c.role, c.field, v.Closed(f), v.Hidden(f), e)
		}
	}
}

func TestRows(t *testing.T) {
	s, store := read(t, api.Row{Type: "P", ID: "p", Cells: []api.Cell{{Name: "s", Text: `"x"`}}}, api.Row{Type: "Query"})
	for _, c := range []struct {
		v      api.Viewer
		hidden bool
	}{{api.Viewer{Role: "user"}, true}, {api.Viewer{Role: "user", ID: "x"}, false}, {api.Viewer{Role: "boss"}, false}} {
		v, e := Of(s, c.v)
		if e != api.OK || v.HiddenRow(store.Row("p")) != c.hidden || v.HiddenRow(store.Row("")) || (len(v.Rows(store)) == 1) != c.hidden {
			t.Errorf("to %v there are %v, error %d", c.v, v.Rows(store), e)
		}
		if (v.Row(store, "p") == nil) != c.hidden || v.Row(store, "") != store.Row("") || v.Row(store, "none") != nil {
			t.Errorf("to %v rows are not found as they should", c.v)
		}
	}
}

func TestNoRole(t *testing.T) {
	s, _ := read(t)
	for _, role := range []string{"", "none", "P"} {
		if v, e := Of(s, api.Viewer{Role: role}); v != nil || e != api.ErrRole {
			t.Errorf("Of(%q) = %v, %d, want nil, %d", role, v, e, api.ErrRole)
		}
	}
}

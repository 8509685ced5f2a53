package stores

import (
	"reflect"
	"testing"

	"veil/api"
	"veil/schemas"
	"veil/value"
)

const text = "role user type Query { n: Int get(id: ID): N } interface N { a: Int } type P implements N { a: Int s: String l: [[N]] }"

func schema(t *testing.T) *schemas.Schema {
	t.Helper()
	s, e := schemas.Read(text)
	if e != api.OK {
		t.Fatalf("schema: error %d", e)
	}
	return s
}

func plain(v value.Value) Content { return Content{Value: v} }

func list(items ...Content) Content {
	return Content{Value: value.Value{Kind: value.List}, Items: items}
}

func refer(id string) Content { return plain(value.Value{Kind: value.Reference, Text: id}) }

func TestReadKeepsWhatIsTold(t *testing.T) {
	null, fault := plain(value.Value{}), plain(value.Value{Kind: value.Fault})
	for c, want := range map[string]Content{
		"null": null, "!": fault, "-7": plain(value.Value{Kind: value.Number, Number: -7}), `"a\n"`: plain(value.Value{Kind: value.String, Text: "a\n"}), "true": plain(value.Value{Kind: value.True}), "false": plain(value.Value{Kind: value.False}),
		`@"x\\"`: refer("x\\"), `@""`: refer(""), "[]": list(), "[[] null[!]]": list(list(), null, list(fault)), `[[@"a"@"b"][@"c"]]`: list(list(refer("a"), refer("b")), list(refer("c"))),
	} {
		if got, ok := readContent(c); !ok || !reflect.DeepEqual(got, want) {
			t.Errorf("%q tells %v, %v, want %v", c, got, ok, want)
		}
	}
}

func TestReadFindsRows(t *testing.T) {
	s := schema(t)
	rows := []api.Row{{Type: "P", ID: "p", Cells: []api.Cell{{Name: "s", Text: ` "x"`}, {Name: "a", Text: "7"}}}, {Type: "Query"}, {Type: "P", ID: "q"}}
	store, e := Read(s, rows)
	if e != api.OK || len(store.Rows) != len(rows) {
		t.Fatalf("Read: %v, %d", store, e)
	}
	for i, r := range rows {
		got := store.Row(r.ID)
		if got != &store.Rows[i] || got.ID != r.ID || got.Object != s.Object(r.Type) || len(got.Cells) != len(r.Cells) {
			t.Errorf("row %q is %v", r.ID, got)
		}
	}
	p := store.Row("p")
	if store.Row("P") != nil || p.Cells[0].Text != ` "x"` || p.Cells[0].Field != p.Object.Field("s") {
		t.Errorf("cells are %v", p.Cells)
	}
	if p.Content("s").Text != "x" || p.Content("a").Number != 7 || p.Content("l").Kind != value.Null || p.Content("x").Kind != value.Null {
		t.Error("contents are not found by their fields")
	}
}

func TestReadOfNoStore(t *testing.T) {
	s := schema(t)
	for _, rows := range [][]api.Row{
		{{Type: "N", ID: "a"}}, {{Type: "P"}}, {{Type: "Query", ID: "a"}}, {{Type: "P", ID: "a"}, {Type: "P", ID: "a"}}, make([]api.Row, api.MaxRows+1),
		{{Type: "Query", Cells: []api.Cell{{Name: "get", Text: "null"}}}}, {{Type: "P", ID: "a", Cells: []api.Cell{{Name: "a", Text: "1"}, {Name: "a", Text: "1"}}}}, {{Type: "P", ID: "a", Cells: []api.Cell{{Name: "l", Text: "[1]"}}}},
	} {
		if store, e := Read(s, rows); store != nil || e != api.ErrStore {
			t.Errorf("Read(%v) = %v, %d, want nil, %d", rows, store, e, api.ErrStore)
		}
	}
}

// ids tells the ids of a store's rows, and what they have at s.
func ids(s *Store) string {
	text := ""
	for i := range s.Rows {
		text += s.Rows[i].ID + s.Rows[i].Content("s").Text + " "
	}
	return text
}

func TestPutAndDrop(t *testing.T) {
	first, e := Read(schema(t), []api.Row{{Type: "P", ID: "a"}, {Type: "P", ID: "b"}, {Type: "P", ID: "c"}})
	if e != api.OK {
		t.Fatalf("Read: error %d", e)
	}
	cells := []api.Cell{{Name: "s", Text: `"x"`}}
	second, e := first.Put(api.Row{Type: "P", ID: "b", Cells: cells})
	third, f := second.Put(api.Row{Type: "P", ID: "d", Cells: cells})
	last, g := third.Drop("b")
	if e != api.OK || f != api.OK || g != api.OK {
		t.Fatalf("errors %d, %d, %d", e, f, g)
	}
	cells[0].Text = `"y"`
	for i, c := range []struct {
		s    *Store
		want string
	}{{first, "a b c "}, {second, "a bx c "}, {third, "a bx c dx "}, {last, "a c dx "}} {
		if got := ids(c.s); got != c.want {
			t.Errorf("store %d has %q, want %q", i, got, c.want)
		}
	}
	if last.Row("b") != nil || last.Row("d") != &last.Rows[2] {
		t.Error("rows are not found where they are")
	}
	if s, e := last.Drop("b"); s != nil || e != api.ErrNone {
		t.Errorf("Drop of no row: %v, %d", s, e)
	}
	if s, e := last.Put(api.Row{Type: "N", ID: "a"}); s != nil || e != api.ErrStore {
		t.Errorf("Put of no row: %v, %d", s, e)
	}
}

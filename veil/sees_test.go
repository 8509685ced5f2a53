package veil

import (
	"fmt"
	"reflect"
	"strconv"
	"strings"
	"testing"

	"veil/api"
)

// stored has a type for each way of fitting.
const stored = `role user role boss: user role aide
type Query implements N { name: String one: P q: Query many(first: Int): [P!]! n: Int! get(id: ID): P any: U all: N }
interface N { name: String } interface Lone { x: Int } union U = P | Query union V = R
type P implements N { name: String i: Int! b: Boolean id: ID s: String! pal: N p: P r: R u: U v: V lone: Lone
 l: [Int] ll: [[ID!]!]! lu: [U] lp(first: Int): [P] deep: [[[[[[[[[[[Int]]]]]]]]]]] by(id: ID): N secret: Int @auth(boss) gone: String @hide(boss) }
type R { to: P }`

func row(typ, id string, cells ...string) api.Row {
	r := api.Row{Type: typ, ID: id}
	for i := 0; i < len(cells); i += 2 {
		r.Cells = append(r.Cells, api.Cell{Name: cells[i], Text: cells[i+1]})
	}
	return r
}

func rows(l ...api.Row) []api.Row { return l }

// copied shares nothing with the rows that it is made of.
func copied(l []api.Row) []api.Row {
	var out []api.Row
	for _, r := range l {
		r.Cells = append([]api.Cell(nil), r.Cells...)
		out = append(out, r)
	}
	return out
}

func wantSees(t *testing.T, schema string, have []api.Row, v api.Viewer, want []api.Row) {
	t.Helper()
	before := copied(have)
	got, e := Sees(schema, have, v)
	if e != api.OK || !sameRows(got, want) {
		t.Errorf("Sees(%.120q, %s, %.60q) = %s, %d, want %s", schema, told(have), v, told(got), e, told(want))
	}
	if !sameRows(have, before) {
		t.Errorf("Sees(.., %s, %.60q) changes the rows", told(before), v)
	}
}

// told is short even for many rows.
func told(l []api.Row) string { return fmt.Sprintf("%.400s", fmt.Sprintf("%q", l)) }

// sameRows takes lists that are empty for the same, nil or not.
func sameRows(a, b []api.Row) bool {
	return len(a) == len(b) && (len(a) == 0 || reflect.DeepEqual(copied(a), copied(b)))
}

func wantNoSees(t *testing.T, want api.Errno, schema string, have []api.Row, v api.Viewer) {
	t.Helper()
	if got, e := Sees(schema, have, v); got != nil || e != want {
		t.Errorf("Sees(%.120q, %s, %.60q) = %s, %d, want nil, %d", schema, told(have), v, told(got), e, want)
	}
}

// wantStore: whoever has the roles sees all of a store.
func wantStore(t *testing.T, have ...api.Row) {
	t.Helper()
	wantSees(t, stored, have, api.Viewer{Role: "boss"}, have)
}

func wantNoStore(t *testing.T, have ...api.Row) {
	t.Helper()
	wantNoSees(t, api.ErrStore, stored, have, api.Viewer{Role: "boss"})
}

func TestSeesExample(t *testing.T) {
	have := rows(row("Query", "", "team", `[@"a" @"b" @"z"]`), row("Person", "a", "name", `"Ann"`, "open", "true", "pay", "7", "friend", `@"b"`), row("Person", "b", "name", `"Bo"`, "open", "false"))
	wantSees(t, example, have, api.Viewer{Role: "user"}, rows(have[0], row("Person", "a", "name", `"Ann"`, "open", "true", "friend", `@"b"`)))
	wantSees(t, example, have, api.Viewer{Role: "boss"}, have)
}

func TestStoreRows(t *testing.T) {
	wantStore(t)
	wantStore(t, row("Query", ""))
	wantStore(t, row("P", "a"), row("R", "b"), row("Query", ""), row("P", "A"), row("P", " "))
	wantStore(t, row("P", "Query"), row("P", "P"), row("P", "\x00"), row("P", "\xff\""), row("P", "é"), row("P", strings.Repeat("x", 2*api.MaxText)))
	wantNoStore(t, row("Query", "q"))
	wantNoStore(t, row("Query", " "))
	wantNoStore(t, row("P", ""))
	wantNoStore(t, row("Query", ""), row("P", ""))
	wantNoStore(t, row("Query", ""), row("Query", ""))
	wantNoStore(t, row("Query", ""), row("Query", "q"))
	wantNoStore(t, row("P", "a"), row("P", "a"))
	wantNoStore(t, row("P", "a"), row("P", "b"), row("R", "a"))
	for _, typ := range []string{"", "N", "U", "V", "Lone", "Int", "ID", "user", "p", "Nothing", "P ", "type"} {
		wantNoStore(t, row(typ, "a"))
		wantNoStore(t, row(typ, ""))
		wantNoStore(t, row("P", "a"), row(typ, "b"))
	}
}

func TestStoreLimitOfRows(t *testing.T) {
	var many []api.Row
	for i := range api.MaxRows + 1 {
		many = append(many, row("P", strconv.Itoa(i), "pal", `@"`+strconv.Itoa(api.MaxRows-1-i)+`"`))
	}
	wantStore(t, many[:api.MaxRows-1]...)
	wantStore(t, many[:api.MaxRows]...)
	wantNoStore(t, many...)
	many[api.MaxRows-1] = row("Query", "")
	many[0].Cells = nil
	wantStore(t, many[:api.MaxRows]...)
	wantNoStore(t, many...)
	wantNoStore(t, make([]api.Row, 1000000)...)
}

func TestStoreCells(t *testing.T) {
	wantStore(t, row("P", "a", "i", "1", "b", "true", "id", `"x"`, "lp", "[]", "secret", "1", "gone", `""`))
	wantStore(t, row("P", "a", "secret", "1", "i", "1"), row("P", "b", "i", "1", "secret", "2"))
	for _, cells := range [][]string{
		{"x", "1"}, {"", "1"}, {"I", "1"}, {"i ", "1"}, {"__typename", `"P"`}, {"to", "null"}, {"one", "null"}, {"P", "null"},
		{"i", "1", "i", "1"}, {"i", "1", "i", "2"}, {"i", "null", "b", "true", "i", "null"}, {"i", "1", "x", "1"},
		{"by", "null"}, {"by", "!"}, {"by", `@"a"`}, {"by", `@"none"`},
	} {
		wantNoStore(t, row("P", "a", cells...))
		wantNoStore(t, row("R", "r"), row("P", "a", cells...), row("Query", ""))
	}
	wantNoStore(t, row("Query", "", "get", "null"))
	wantNoStore(t, row("Query", "", "i", "1"))
	wantNoStore(t, row("P", "a", strings.Fields(strings.Repeat("i 1 ", 1000000))...))
}

func TestStoreFits(t *testing.T) {
	kinds := map[string]string{"number": "7", "string": `"a"`, "yes": "true", "no": "false", "reference": `@"none"`, "list": "[]", "null": "null", "fault": "!", "nulls": "[null]", "faults": "[!]", "ints": "[1 -2]", "strings": `["a"]`, "references": `[@"none"]`, "lists": "[[]]", "listed": `[["a"]]`, "faulty": "[[!] !]", "mixed": `[1 "a"]`}
	for field, fit := range map[string]string{
		"i": "number", "b": "yes no", "id": "string", "s": "string", "name": "string",
		"pal": "reference", "p": "reference", "r": "reference", "u": "reference", "v": "reference", "lone": "reference",
		"l": "list ints nulls faults", "ll": "list lists listed nulls faults faulty", "lu": "list references nulls faults", "lp": "list references nulls faults", "deep": "list lists nulls faults faulty",
	} {
		for kind, text := range kinds {
			if kind == "null" || kind == "fault" || strings.Contains(" "+fit+" ", " "+kind+" ") {
				wantStore(t, row("P", "a", field, text))
			} else {
				wantNoStore(t, row("P", "a", field, text))
			}
		}
	}
}

func TestStoreFitsListsInside(t *testing.T) {
	for _, c := range [][2]string{{"l", "[1 null ! 2]"}, {"ll", `[["a" null] ! [] [!]]`}, {"lu", `[@"a" ! @"none" null]`}} {
		wantStore(t, row("P", "a", c[0], c[1]))
	}
	for _, c := range [][2]string{
		{"l", "[1 [] 2]"}, {"l", "[[1]]"}, {"l", "[1 true]"}, {"l", "[! null @\"a\"]"},
		{"ll", `["a"]`}, {"ll", `[["a"] "a"]`}, {"ll", `[["a" 1]]`}, {"ll", `[[["a"]]]`}, {"ll", `[["a"] [] [[]]]`}, {"lu", `[@"a" "a"]`}, {"lu", "[[]]"},
	} {
		wantNoStore(t, row("P", "a", c[0], c[1]))
	}
}

func TestStoreReferences(t *testing.T) {
	all := func(cells ...string) []api.Row {
		return rows(row("P", "a", cells...), row("P", "b"), row("R", "r"), row("Query", ""))
	}
	for field, fit := range map[string]string{"pal": "a b z", "p": "a b z", "r": "r z", "u": "a b z", "v": "r z", "lone": "z"} {
		for _, id := range append(strings.Fields("a b r z"), "") {
			if id != "" && strings.Contains(" "+fit+" ", " "+id+" ") {
				wantStore(t, all(field, `@"`+id+`"`)...)
			} else {
				wantNoStore(t, all(field, `@"`+id+`"`)...)
			}
		}
	}
	wantNoStore(t, all("lu", `[@"a" @"r"]`)...)
	wantNoStore(t, all("lp", `[@"a" [] @"r"]`)...)
	wantStore(t, row("P", "a", "lp", `[@"b" @"b" @"a"]`), row("P", "b"))
	wantStore(t, row("P", "r\"\\\n\t"), row("R", "b", "to", `@"r\"\\\n\t"`))
	wantNoStore(t, row("R", "r\"\\\n\t"), row("R", "b", "to", `@"r\"\\\n\t"`))
	wantStore(t, row("R", " b"), row("R", "B"), row("R", "c", "to", `@"b"`))
}

// The row of Query fits nowhere, not even where objects of its types do. Where it is not there, its id is nobody's.
func TestStoreReferencesToQuery(t *testing.T) {
	for _, field := range []string{"one", "q", "any", "all"} {
		wantNoStore(t, row("Query", "", field, `@""`))
		wantStore(t, row("Query", "", field, `@"none"`))
	}
	for _, field := range []string{"pal", "p", "r", "u"} {
		wantStore(t, row("P", "a", field, `@""`))
		wantNoStore(t, row("P", "a", field, `@""`), row("Query", ""))
	}
	wantNoStore(t, row("Query", "", "q", `@"a"`), row("P", "a"))
	wantStore(t, row("Query", "", "any", `@"a"`, "all", `@"a"`, "many", `[@"a"]`), row("P", "a"))
}

func TestStoreWrittenWell(t *testing.T) {
	for _, c := range [][2]string{
		{"i", "-0"}, {"i", "0"}, {"i", "999999999"}, {"i", "-999999999"}, {"i", " 1 "}, {"i", ",\t\r\n#x\n1,#y"}, {"i", "!"}, {"i", " ! #"},
		{"name", `""`}, {"name", `"\"\\\n\t ~"`}, {"name", `"#,"`}, {"p", `@"a"`}, {"p", "@ #x\n, \"a\""}, {"p", `@""`},
		{"l", "[]"}, {"l", "[ , ]"}, {"l", "[1,2]"}, {"l", "[1-2]"}, {"l", "[-0 0]"}, {"ll", `[["a""b"][]null!]`},
	} {
		wantStore(t, row("P", "a", c[0], c[1]))
	}
}

func TestStoreWrittenWrongly(t *testing.T) {
	for _, text := range []string{
		"", " ", "#", "# 1", ",", "1 2", "1 !", "! !", "!1", "null null", "null 1", "01", "1000000000", "1a", "-", "--1", "+1", "1.5", "viewer", "True", "NULL", "nil", "a", "$a", "{}", "{", "}", "(1)", "(", ")", ":", "=", "|", "&", "...", ".", "..", "\x00", "\xff", "é", ";",
		`"`, `"a`, `'a'`, `"\q"`, `"` + "\n" + `"`, `"` + "\x7f" + `"`, `"` + "é" + `"`, `"a" "b"`,
		"@", "@a", "@1", "@null", "@!", "@@", `@@"a"`, `@["a"]`, `@"a" "b"`, `"a"@`, `@"a`, `@ @"a"`, `$"a"`,
		"[", "]", "[]]", "[[]", "][", "[] []", "[1", "1]", "[1 2", "[@]", "[@ 1]", "[a]", "[1 a]", "[viewer]", "[()]", "[{}]", "[!", "[:]", "[$a]", "[] 1", "1 []", "[...]", "[1] !",
	} {
		for _, field := range []string{"i", "name", "b", "p", "l", "ll", "lu"} {
			wantNoStore(t, row("P", "a", field, text))
		}
		wantNoStore(t, row("P", "a", "l", "[["+text))
	}
}

func TestStoreLimitOfText(t *testing.T) {
	pad := func(text, fill string, n int) string { return text + strings.Repeat(fill, n-len(text)) }
	for _, fill := range []string{" ", ",", "\n", "#"} {
		wantStore(t, row("P", "a", "i", pad("1", fill, api.MaxText)))
		wantNoStore(t, row("P", "a", "i", pad("1", fill, api.MaxText+1)))
	}
	quoted := func(n int) string { return `"` + strings.Repeat("x", n-2) + `"` }
	wantStore(t, row("P", "a", "s", quoted(api.MaxText), "name", quoted(api.MaxText), "p", "@"+quoted(api.MaxText-1)))
	wantNoStore(t, row("P", "a", "s", quoted(api.MaxText+1)))
	wantNoStore(t, row("P", "a", "p", "@"+quoted(api.MaxText)))
	wantNoStore(t, row("P", "a", "s", quoted(5000000)))
}

func TestStoreLimitOfTokens(t *testing.T) {
	list := func(n int) string { return "[" + strings.Repeat("1 ", n-2) + "]" }
	wantStore(t, row("P", "a", "l", list(api.MaxTokens), "i", "1"))
	wantStore(t, row("P", "a", "l", list(api.MaxTokens)+"# 1"))
	wantNoStore(t, row("P", "a", "l", list(api.MaxTokens+1)))
}

func TestStoreLimitOfDepth(t *testing.T) {
	nested := func(n int, inside string) string { return strings.Repeat("[", n) + inside + strings.Repeat("]", n) }
	for _, inside := range []string{"", "null", "!"} {
		wantStore(t, row("P", "a", "deep", nested(api.MaxDepth, inside)))
		wantNoStore(t, row("P", "a", "deep", nested(api.MaxDepth+1, inside)))
	}
	flat := nested(api.MaxDepth-1, "")
	wantStore(t, row("P", "a", "deep", "["+flat+flat+nested(api.MaxDepth-2, "")+flat+"]"))
	wantNoStore(t, row("P", "a", "deep", "["+flat+"["+flat+"]]"))
	wantNoStore(t, row("P", "a", "deep", nested(api.MaxDepth, "1")))
	wantNoStore(t, row("P", "a", "deep", nested(api.MaxDepth+1, "1")))
	wantNoStore(t, row("P", "a", "deep", strings.Repeat("[", api.MaxTokens)))
	wantNoStore(t, row("P", "a", "deep", nested(api.MaxTokens/2, "")))
}

// A store is one for every viewer: what is wrong in a row that is hidden, or a cell that is closed, is told all the same.
func TestStoreIsNoneWhoeverLooks(t *testing.T) {
	schema := "role user type Query { a: Int } type P @rows(not all) { a: Int } type Q { a: Int @auth(never) b: Int @hide(never) } role never"
	v := api.Viewer{Role: "user"}
	wantSees(t, schema, rows(row("P", "a", "a", "1"), row("Q", "b", "a", "1", "b", "2")), v, rows(row("Q", "b")))
	wantNoSees(t, api.ErrStore, schema, rows(row("P", "a", "a", "x")), v)
	wantNoSees(t, api.ErrStore, schema, rows(row("P", "a", "a", "true")), v)
	wantNoSees(t, api.ErrStore, schema, rows(row("Q", "b", "a", "true")), v)
	wantNoSees(t, api.ErrStore, schema, rows(row("Q", "b", "b", "]")), v)
	wantNoSees(t, api.ErrStore, schema, rows(row("P", "a"), row("P", "a")), v)
}

func TestSeesRoles(t *testing.T) {
	for _, role := range []string{"", " ", "nobody", "User", "user ", "Query", "P", "Int", "is", "\xff", strings.Repeat("user", 1000000)} {
		wantNoSees(t, api.ErrRole, stored, nil, api.Viewer{Role: role})
		wantNoSees(t, api.ErrRole, stored, rows(row("P", "a")), api.Viewer{Role: role, ID: "user"})
	}
	wantNoSees(t, api.ErrRole, "type Query { a: Int }", nil, api.Viewer{})
	for _, role := range []string{"user", "boss", "aide"} {
		wantSees(t, stored, nil, api.Viewer{Role: role, ID: "\x00\xff"}, nil)
	}
}

func TestSeesTellsTheFirstError(t *testing.T) {
	bad, good := rows(row("Nothing", "")), rows(row("P", "a"))
	for _, v := range []api.Viewer{{Role: "nobody"}, {Role: "user"}} {
		for _, have := range [][]api.Row{bad, good, nil} {
			wantNoSees(t, api.ErrSyntax, "type Query {}", have, v)
			wantNoSees(t, api.ErrSyntax, "role a role a }", have, v)
			wantNoSees(t, api.ErrSchema, "role user", have, v)
		}
		wantNoSees(t, api.ErrStore, stored, bad, v)
	}
	wantNoSees(t, api.ErrRole, stored, good, api.Viewer{Role: "nobody"})
}

package veil

import (
	"slices"
	"strings"
	"sync"
	"testing"

	"veil/api"
)

// seenBy tells the ids of what a viewer sees of rows of P, under a rule, with a blank between them.
func seenBy(t *testing.T, rule string, v api.Viewer, have ...api.Row) string {
	t.Helper()
	schema := "role user role boss: chief role chief: user role aide type Query { a: Int } type P @rows(" + rule + ") { i: Int! s: String b: Boolean d: ID }"
	got, e := Sees(schema, have, v)
	if e != api.OK {
		t.Fatalf("Sees by rule %q: error %d", rule, e)
	}
	var ids []string
	for _, r := range got {
		ids = append(ids, r.ID)
		if !slices.ContainsFunc(have, func(h api.Row) bool { return sameRows(rows(h), rows(r)) }) {
			t.Errorf("by rule %q a row is %v", rule, r)
		}
	}
	return strings.Join(ids, " ")
}

// Each field's rows: what is told there, by the id.
func TestRulesEqual(t *testing.T) {
	have := rows(row("P", "none"), row("P", "null", "i", "null", "s", "null", "b", "null", "d", "null"), row("P", "fault", "i", "!", "s", "!", "b", "!", "d", "!"),
		row("P", "0", "i", "0", "s", `""`, "b", "false", "d", `"0"`), row("P", "1", "i", "1", "s", `"1"`, "b", "true", "d", `"1"`),
		row("P", "-1", "i", "-1", "s", `"a\n\t\"\\"`, "d", `"null"`), row("P", "-0", "i", " -0 # x", "s", `"A"`, "d", `"true"`))
	for rule, want := range map[string]string{
		"i = 0": "0 -0", "i = -0": "0 -0", "i = 1": "1", "i = -1": "-1", "i = 2": "", "i = null": "none null", `i = "1"`: "", "i = true": "", "i = false": "", "i = viewer": "",
		`s = ""`: "0", `s = "1"`: "1", `s = "a\n\t\"\\"`: "-1", `s = "a"`: "", `s = "A"`: "-0", "s = 1": "", "s = null": "none null", "s = true": "", "s = viewer": "1",
		"b = true": "1", "b = false": "0", "b = null": "none null -1 -0", "b = 1": "", `b = "true"`: "", "b = viewer": "",
		`d = "0"`: "0", "d = 0": "", "d = null": "none null", `d = "null"`: "-1", "d = true": "", `d = "true"`: "-0", "d = viewer": "1",
		"not i = 0": "none null fault 1 -1", "not i = null": "fault 0 1 -1 -0", "not b = true": "none null fault 0 -1 -0", "not s = viewer": "none null fault 0 -1 -0",
	} {
		if got := seenBy(t, rule, api.Viewer{Role: "user", ID: "1"}, have...); got != want {
			t.Errorf("by rule %q there are %q, want %q", rule, got, want)
		}
	}
}

func TestRulesViewer(t *testing.T) {
	have := rows(row("P", "a", "s", `"x"`, "i", "7"), row("P", "x", "s", `"a"`), row("P", "empty", "s", `""`), row("P", "null"), row("P", "word", "s", `"null"`, "b", "true"), row("P", "fault", "s", "!"), row("P", "signs", "s", `"\"\\\n\t#"`))
	for id, want := range map[string]string{
		"x": "a", "a": "x", "": "empty", "null": "word", "\"\\\n\t#": "signs", `"x"`: "", `\"\\\n\t#`: "", "X": "", "7": "", "true": "", "!": "", "\xff": "", "é": "", "x ": "",
	} {
		if got := seenBy(t, "s = viewer", api.Viewer{Role: "user", ID: id}, have...); got != want {
			t.Errorf("viewer %q sees %q, want %q", id, got, want)
		}
	}
	if got := seenBy(t, "i = viewer or b = viewer", api.Viewer{Role: "user", ID: "7"}, have...); got != "" {
		t.Errorf("a viewer's id is taken for a number: %q", got)
	}
}

func TestRulesIs(t *testing.T) {
	for rule, want := range map[string]string{
		"is user": "user chief boss", "is chief": "chief boss", "is boss": "boss", "is aide": "aide", "not is user": "aide", "not is chief": "user aide", "is aide or is boss": "boss aide", "is aide and is boss": "", "is user and not is boss": "user chief", "all": "user chief boss aide", "not all": "",
	} {
		var saw []string
		for _, role := range strings.Fields("user chief boss aide") {
			if seenBy(t, rule, api.Viewer{Role: role, ID: "aide"}, row("P", "a")) == "a" {
				saw = append(saw, role)
			}
		}
		if got := strings.Join(saw, " "); got != want {
			t.Errorf("by rule %q it is %q who see, want %q", rule, got, want)
		}
	}
}

// The rows have all choices of three cells; the id tells which of i, s, b are so.
func TestRulesTogether(t *testing.T) {
	var have []api.Row
	for _, id := range strings.Fields("--- --b -s- -sb i-- i-b is- isb") {
		r := row("P", id)
		for _, c := range []struct{ mark, name, text string }{{"i", "i", "1"}, {"s", "s", `"x"`}, {"b", "b", "true"}} {
			if strings.Contains(id, c.mark) {
				r.Cells = append(r.Cells, api.Cell{Name: c.name, Text: c.text})
			}
		}
		have = append(have, r)
	}
	short := strings.NewReplacer("I", "i = 1", "S", `s = "x"`, "B", "b = true")
	for rule, want := range map[string]string{
		"I": "i-- i-b is- isb", "not I": "--- --b -s- -sb", "not not I": "i-- i-b is- isb", "not not not I": "--- --b -s- -sb", "(I)": "i-- i-b is- isb", "((not (I)))": "--- --b -s- -sb",
		"I and S": "is- isb", "I or S": "-s- -sb i-- i-b is- isb", "I and S and B": "isb", "I or S or B": "--b -s- -sb i-- i-b is- isb",
		"I or S and B": "-sb i-- i-b is- isb", "I and S or B": "--b -sb i-b is- isb", "(I or S) and B": "-sb i-b isb", "B and (I or S)": "-sb i-b isb",
		"not I and S": "-s- -sb", "not (I and S)": "--- --b -s- -sb i-- i-b", "not I or S": "--- --b -s- -sb is- isb", "not (I or S)": "--- --b", "I and not S": "i-- i-b", "I or not S": "--- --b i-- i-b is- isb", "not I and not S and not B": "---",
		"I and not (S or B) or S and not (I or B) or B and not (I or S)": "--b -s- i--", "all and I": "i-- i-b is- isb", "all or I": "--- --b -s- -sb i-- i-b is- isb", "not all or I": "i-- i-b is- isb", "not all and I": "",
		"is boss or I": "i-- i-b is- isb", "is user and I": "i-- i-b is- isb", "is boss and I": "", "is user or I": "--- --b -s- -sb i-- i-b is- isb", "I and is boss or S and is user": "-s- -sb is- isb",
	} {
		if got := seenBy(t, short.Replace(rule), api.Viewer{Role: "user"}, have...); got != want {
			t.Errorf("by rule %q there are %q, want %q", rule, got, want)
		}
	}
}

func TestRulesDeep(t *testing.T) {
	for rule, want := range map[string]string{
		strings.Repeat("not ", 700) + "all": "a", strings.Repeat("not ", 701) + "all": "", strings.Repeat("(", 330) + "not all" + strings.Repeat(")", 330): "", "not all" + strings.Repeat(" or not all", 200) + " or all": "a", "all" + strings.Repeat(" and all", 300) + " and not all": "",
	} {
		if got := seenBy(t, rule, api.Viewer{Role: "user"}, row("P", "a")); got != want {
			t.Errorf("by rule %.40q.. there are %q, want %q", rule, got, want)
		}
	}
}

// A rule is its own object's: others of the same types are not hidden by it.
func TestRulesAreOfOneObject(t *testing.T) {
	schema := "role user type Query implements N { s: String } interface N { s: String } union U = A | B | Query type A implements N @rows(s = viewer) { s: String } type B implements N { s: String } type C @rows(is user) { s: String }"
	have := rows(row("C", "c"), row("B", "b", "s", `"x"`), row("A", "a", "s", `"x"`), row("Query", "", "s", `"x"`), row("A", "d", "s", `"y"`))
	wantSees(t, schema, have, api.Viewer{Role: "user"}, rows(have[0], have[1], have[3]))
	wantSees(t, schema, have, api.Viewer{Role: "user", ID: "y"}, rows(have[0], have[1], have[3], have[4]))
}

func TestSeesFields(t *testing.T) {
	schema := "role user role chief: user role boss: chief role aide type Query { a: Int @auth(chief) b: Int @hide(aide) c: Int } type P { none: Int auth: Int @auth(chief) hide: Int @hide(chief) both: Int @auth(chief) @hide(aide) twice: Int @hide(user) @auth(boss) list: [P] @auth(aide) }"
	have := rows(row("P", "p", "both", "1", "hide", "2", "none", "!", "auth", "4", "list", "[]", "twice", "null"), row("Query", "", "c", "1", "b", "2", "a", "3"), row("P", "q", "auth", "1"), row("P", "r"))
	for role, want := range map[string][]api.Row{
		"user":  rows(row("P", "p", "none", "!"), row("Query", "", "c", "1"), row("P", "q"), have[3]),
		"chief": rows(row("P", "p", "hide", "2", "none", "!", "auth", "4"), row("Query", "", "c", "1", "a", "3"), have[2], have[3]),
		"boss":  rows(row("P", "p", "hide", "2", "none", "!", "auth", "4", "twice", "null"), row("Query", "", "c", "1", "a", "3"), have[2], have[3]),
		"aide":  rows(row("P", "p", "none", "!", "list", "[]"), row("Query", "", "c", "1", "b", "2"), row("P", "q"), have[3]),
	} {
		wantSees(t, schema, have, api.Viewer{Role: role}, want)
	}
}

func TestSeesKeepsWhatIsWritten(t *testing.T) {
	have := rows(row("P", "a", "l", " [ 1,2 ] # x", "i", "-0", "pal", `@ "hidden"`, "name", `"\n\t"`, "deep", "[[!],null]"), row("Query", "", "many", `[@"a",@"z"]`, "n", "!"))
	wantSees(t, stored, have, api.Viewer{Role: "aide"}, have)
}

// A reference stays as it is where its row is hidden, and what is seen is a store again, of which the same is seen (P8 leans on it).
func TestSeesAgain(t *testing.T) {
	have := rows(row("Query", "", "team", `[@"a" @"b" @"c"]`), row("Person", "b", "name", `"Bo"`, "pay", "1", "note", `"n"`), row("Person", "a", "open", "true", "pay", "7", "friend", `@"b"`), row("Person", "c", "open", "true", "friend", `@"a"`, "note", "!"))
	for _, role := range []string{"user", "boss"} {
		v := api.Viewer{Role: role}
		once, e := Sees(example, have, v)
		if e != api.OK || role == "user" && len(once) != 3 {
			t.Fatalf("%s sees %v, %d", role, once, e)
		}
		wantSees(t, example, once, v, once)
	}
}

func TestSeesAnswersNewMemory(t *testing.T) {
	have := rows(row("P", "a", "i", "1", "s", `"x"`, "secret", "2"), row("P", "b", "i", "2"), row("P", "c"))
	have[0].Cells = append(make([]api.Cell, 0, 9), have[0].Cells...)
	before := copied(have)
	v := api.Viewer{Role: "aide"}
	got, _ := Sees(stored, have, v)
	want := copied(got)
	for _, list := range [][]api.Row{have, got} {
		for i := range list {
			list[i].ID, list[i].Type = "changed", "Query"
			cells := list[i].Cells[:cap(list[i].Cells)]
			for j := range cells {
				cells[j] = api.Cell{Name: "changed", Text: "!"}
			}
		}
		if &list[0] == &have[0] && !sameRows(got, want) {
			t.Errorf("the answer is %v when the rows are changed, want %v", got, want)
		}
	}
	spare := got[:cap(got)]
	for i := range spare {
		spare[i] = row("P", "spare")
	}
	wantSees(t, stored, before, v, want)
}

// No two lists of an answer share their spare room.
func TestSeesAnswersListsApart(t *testing.T) {
	var have []api.Row
	for _, id := range strings.Fields("a b c d e f g") {
		have = append(have, row("P", id, "i", "1", "s", `"x"`, "b", "true", "secret", "1", "gone", `"x"`))
	}
	got, _ := Sees(stored, have, api.Viewer{Role: "user"})
	want := copied(got)
	for i := range got {
		_ = append(got[i].Cells, api.Cell{Name: "more"}, api.Cell{Name: "more"})
	}
	_ = append(got, row("P", "more"))
	if !sameRows(got, want) || !sameRows(have[:1], rows(row("P", "a", "i", "1", "s", `"x"`, "b", "true", "secret", "1", "gone", `"x"`))) {
		t.Errorf("lists share memory: %v, want %v", got, want)
	}
}

// Whatever is cut off, put in or doubled, Sees ends, does not panic, and tells one of its answers, the same one each time (P1, P2).
func TestSeesEndsAtAnything(t *testing.T) {
	text := ` [ @ "b" , [ null ! ] -1 "a\n\"" true # x` + "\n ] "
	words := strings.Fields("! $ ( ) : = @ [ ] { } | & ... # ; \x00 \xff - 7 \"x\" null true viewer a \\ \"")
	for i := range len(text) + 1 {
		trySees(t, stored, text[:i])
		trySees(t, stored, text[i:])
		for _, w := range words {
			trySees(t, stored, text[:i]+w+text[i:])
			trySees(t, stored, text[:i]+" "+w)
		}
	}
	for i := 0; i < len(stored); i += 3 {
		trySees(t, stored[:i], text)
		trySees(t, stored[i:], "1")
		trySees(t, stored[:i]+stored[i+1:], "null")
	}
}

func trySees(t *testing.T, schema, text string) {
	t.Helper()
	for _, field := range []string{"i", "name", "p", "l", "lu", "deep", text} {
		have := rows(row("P", "a", field, text), row("P", text, field, "1"), row("Query", "", "many", "[]"))
		got, e := Sees(schema, have, api.Viewer{Role: "user", ID: text})
		again, f := Sees(schema, have, api.Viewer{Role: "user", ID: text})
		if e < api.OK || e > api.ErrRole || e != api.OK && got != nil || f != e || !sameRows(got, again) {
			t.Errorf("Sees(%.100q, %s) = %s, %d, then %s, %d", schema, told(have), told(got), e, told(again), f)
		}
	}
}

func TestSeesOfMuchEnds(t *testing.T) {
	schema, have := strings.Builder{}, []api.Row{}
	schema.WriteString("role r type Query{a:Int}type P@rows(not all or f1=null){")
	var cells []string
	for i := range 100 {
		name := "f" + string(rune('0'+i%10)) + strings.Repeat("x", i/10)
		schema.WriteString(name + ":[[P]] ")
		cells = append(cells, name, "["+strings.Repeat(`[@"z"]`, 30)+"]")
	}
	schema.WriteString("}")
	text := strings.Replace(schema.String(), "f1:[[P]]", "f1:Int", 1)
	cells[3] = "null"
	for i := range api.MaxRows {
		have = append(have, row("P", "id"+strings.Repeat("x", i), cells...))
	}
	wantSees(t, text, have, api.Viewer{Role: "r"}, have)
	have[api.MaxRows-1].Cells[99].Text = "["
	wantNoSees(t, api.ErrStore, text, have, api.Viewer{Role: "r"})
}

func TestSeesDependsOnItsArgumentsAlone(t *testing.T) {
	have := rows(row("Person", "a", "open", "true", "pay", "7"), row("Person", "b", "pay", "8"))
	asUser, asBoss := rows(row("Person", "a", "open", "true")), have
	var wait sync.WaitGroup
	for range 20 {
		wait.Go(func() { wantSees(t, example, have, api.Viewer{Role: "user"}, asUser) })
		wait.Go(func() { wantSees(t, example, have, api.Viewer{Role: "boss"}, asBoss) })
		wait.Go(func() { wantNoSees(t, api.ErrRole, example, have, api.Viewer{Role: "none"}) })
		wait.Go(func() { wantNoSees(t, api.ErrStore, example, append(copied(have), have[0]), api.Viewer{Role: "boss"}) })
	}
	wait.Wait()
}

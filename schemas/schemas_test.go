package schemas

import (
	"slices"
	"strconv"
	"strings"
	"testing"

	"veil/api"
	"veil/value"
)

func read(t *testing.T, text string) *Schema {
	t.Helper()
	s, e := Read(text)
	if e != api.OK {
		t.Fatalf("Read(%q): error %d", text, e)
	}
	return s
}

func TestReadKeepsWhatIsWritten(t *testing.T) {
	s := read(t, `union U = P | Query role user role boss : user type Query { me(id: ID): P! }
		interface N { list(first: Int): [[Int!]]! @hide(user) @auth(boss) } type P implements N { a: ID list(first: Int): [[Int!]]! @auth(boss) @hide(user) }`)
	if want := []Named{{"U"}, {"Query"}, {"N"}, {"P"}}; !slices.Equal(s.Names, want) {
		t.Errorf("names are %v, want %v", s.Names, want)
	}
	for name, want := range map[string]Kind{"U": UnionKind, "Query": ObjectKind, "N": InterfaceKind, "P": ObjectKind, "ID": ScalarKind, "Int": ScalarKind, "String": ScalarKind, "Boolean": ScalarKind, "user": Unknown, "": Unknown, "int": Unknown} {
		if got := s.Kind(name); got != want {
			t.Errorf("kind of %q is %d, want %d", name, got, want)
		}
	}
	if got := s.Union("U").Members; !slices.Equal(got, []string{"P", "Query"}) {
		t.Errorf("members are %v", got)
	}
	if got := s.Role("boss").Includes; !slices.Equal(got, []string{"user"}) || s.Role("P") != nil {
		t.Errorf("the boss includes %v", got)
	}
	if got := s.Object("P").Implements; !slices.Equal(got, []string{"N"}) {
		t.Errorf("P implements %v", got)
	}
	me := s.Object("Query").Field("me")
	if me.Argument != (Argument{Named{"id"}, "ID"}) || me.Type.Name != "P" || !me.Type.Strict || me.Type.Kind != Single || me.Auth != "" || me.Hide != "" {
		t.Errorf("me is %v", me)
	}
	f := s.Interface("N").Field("list")
	if f.Argument != (Argument{Named{"first"}, "Int"}) || f.Auth != "boss" || f.Hide != "user" || typeText(f.Type) != "[[Int!]]!" || f.Type.Innermost().Name != "Int" {
		t.Errorf("list is %v, of type %s", f, typeText(f.Type))
	}
}

func typeText(t *Type) string {
	text := t.Name
	if t.Kind == List {
		text = "[" + typeText(t.Inner) + "]"
	}
	if t.Strict {
		text += "!"
	}
	return text
}

func ruleText(r *Rule) string {
	var parts []string
	for _, p := range r.Parts {
		parts = append(parts, ruleText(p))
	}
	switch r.Kind {
	case Or:
		return "(" + strings.Join(parts, "|") + ")"
	case And:
		return "(" + strings.Join(parts, "&") + ")"
	case Not:
		return "!" + parts[0]
	case All:
		return "all"
	case Is:
		return "is " + r.Name
	}
	return r.Name + "=" + strconv.Itoa(int(r.Value.Kind)) + ":" + strconv.Itoa(r.Value.Number) + r.Value.Text
}

func TestRules(t *testing.T) {
	number, text, viewer := strconv.Itoa(int(value.Number)), strconv.Itoa(int(value.String)), strconv.Itoa(int(value.Viewer))
	for rule, want := range map[string]string{
		"all":                              "((all))",
		"not not all":                      "((!!all))",
		"not all and is user":              "((!all&is user))",
		"all or all and all or is user":    "((all)|(all&all)|(is user))",
		"(all or all) and not(is user)":    "((((all)|(all))&!((is user))))",
		"a = -7":                           "((a=" + number + ":-7))",
		`or = "x" or and = viewer and all`: "((or=" + text + ":0x)|(and=" + viewer + ":0&all))",
	} {
		s := read(t, "role user type Query { a: Int } type P @rows("+rule+") { a: Int or: String and: ID! }")
		if got := ruleText(s.Object("P").Rule); got != want {
			t.Errorf("rule %q is %s, want %s", rule, got, want)
		}
	}
	if s := read(t, "type Query { a: Int }"); s.Object("Query").Rule != nil {
		t.Error("a rule that nobody wrote")
	}
}

func TestReadGivesNothingBesideAnError(t *testing.T) {
	for text, want := range map[string]api.Errno{"type": api.ErrSyntax, "role a": api.ErrSchema} {
		if s, e := Read(text); s != nil || e != want {
			t.Errorf("Read(%q) = %v, %d, want nil, %d", text, s, e, want)
		}
	}
}

func TestHad(t *testing.T) {
	s := read(t, "role a: b c role b: d role c: d role d role e: a type Query { a: Int }")
	for role, want := range map[string]string{"a": "a b c d", "b": "b d", "c": "c d", "d": "d", "e": "a b c d e", "": "", "f": "", "Query": ""} {
		got := s.Had(role)
		slices.Sort(got)
		if strings.Join(got, " ") != want {
			t.Errorf("%q has %v, want %s", role, got, want)
		}
	}
}

func TestOf(t *testing.T) {
	s := read(t, "type Query implements N { a: Int } interface N { a: Int } interface M { a: Int } union U = P | Query union V = Q type P implements M N { a: Int } type Q { a: Int }")
	for object, want := range map[string]string{"Query": "Query N U", "P": "N M U P", "Q": "V Q"} {
		var got []string
		for _, n := range append(s.Names, Named{"Int"}, Named{""}, Named{"X"}) {
			if s.Of(s.Object(object), n.Name) {
				got = append(got, n.Name)
			}
		}
		if strings.Join(got, " ") != want {
			t.Errorf("%s is of %v, want %s", object, got, want)
		}
	}
}

func TestTakesID(t *testing.T) {
	q := read(t, "type Query { id: ID by(id: ID): Query l(first: Int): [Int] }").Object(Query)
	if q.Field("id").TakesID() || !q.Field("by").TakesID() || q.Field("l").TakesID() {
		t.Error("an argument id is not known by its name")
	}
}

func TestFieldsOfTypes(t *testing.T) {
	s := read(t, "type Query { a: Int b: P } interface N { a: Int } interface M { b: Int } union U = P | Query union V = Query type P implements N { c: Int a: Int }")
	for name, want := range map[string]int{"Query": 2, "N": 1, "P": 2, "U": 0, "Int": 0, "Nothing": 0, "": 0} {
		if got := s.Fields(name); len(got) != want || (got == nil) != (want == 0) {
			t.Errorf("%q has %d fields, want %d", name, len(got), want)
		}
	}
	if f := s.Field("P", "a"); f == nil || f != s.Object("P").Field("a") || s.Field("P", "b") != nil || s.Field("U", "a") != nil || s.Field("N", "a") != s.Interface("N").Field("a") {
		t.Error("fields are not found by their types")
	}
	for pair, want := range map[[2]string]bool{{"P", "P"}: true, {"P", "N"}: true, {"N", "P"}: true, {"N", "U"}: true, {"P", "Query"}: false, {"N", "V"}: false, {"U", "V"}: true, {"M", "M"}: false, {"N", "M"}: false, {"Int", "Int"}: false, {"Nothing", "P"}: false} {
		if s.Meet(pair[0], pair[1]) != want {
			t.Errorf("%v meet: %v", pair, !want)
		}
	}
}

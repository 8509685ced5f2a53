package checks

import (
	"testing"

	"veil/api"
	"veil/queries"
	"veil/schemas"
	"veil/views"
)

const text = "role user role boss: user interface N { a: Int } interface Lone { a: Int } union U = P type Query { a: Int n: N u: U l(first: Int): [P!]! p(id: ID): P! h: Int @hide(boss) lone: Lone } type P implements N { a: Int b: Int }"

func good(t *testing.T, role, query string) bool {
	t.Helper()
	s, e := schemas.Read(text)
	if e != api.OK {
		t.Fatalf("schema: error %d", e)
	}
	v, e := views.Of(s, api.Viewer{Role: role})
	if e != api.OK {
		t.Fatalf("role: error %d", e)
	}
	q, ok := queries.Read(query)
	if !ok || !q.Link() || !q.Bind(nil) {
		t.Fatalf("query %q is not right", query)
	}
	return Good(s, v, q)
}

func TestGood(t *testing.T) {
	for query, want := range map[string]bool{
		"{a}": true, "{b}": false, "{a{b}}": false, "{n{a}}": true, "{n{b}}": false, "{n}": false, "{u{a}}": false, "{u{__typename}}": true, "{n{...on P{b}}}": true, "{...on P{b}}": false, "{...{a}}": true, "{lone{...{a}}}": false, "{lone{a}}": true, "{...F}": false,
		"{n{...F}u{...F}}fragment F on P{b}": true, "{n{...F}...F}fragment F on P{b}": false, "{l{a}}": true, "{l(first:null){a}}": true, "{l(first:true){a}}": false, "{p{a}}": false, `{p(id:"x"){a}}`: true, "{p(id:null){a}}": false, `{p(id:"x"first:1){a}}`: false, "{a@skip(if:null)}": false, "{a@skip(if:true)}": true,
		"{__types}": true, "{n{__types}}": false, `{__fields(type:"P")}`: true, "{__fields}": false, "{__typename{a}}": false, "{a a:__typename}": false, "query($x:Int){l(first:$y){a}}": false, "query($x:Int){l(first:$x){a}}": true,
	} {
		if good(t, "user", query) != want {
			t.Errorf("Good of %q is %v", query, !want)
		}
	}
}

func TestGoodAsFarAsTheViewerCanTell(t *testing.T) {
	if good(t, "user", "{h}") || !good(t, "boss", "{h}") {
		t.Error("a field is hidden to a boss, or not to a user")
	}
}

package answers

import (
	"strings"
	"testing"

	"veil/api"
	"veil/schemas"
	"veil/stores"
)

func store(t *testing.T, text string, rows ...api.Row) *stores.Store {
	t.Helper()
	s, e := schemas.Read(text)
	if e != api.OK {
		t.Fatalf("schema: error %d", e)
	}
	store, e := stores.Read(s, rows)
	if e != api.OK {
		t.Fatalf("rows: error %d", e)
	}
	return store
}

func TestAnswer(t *testing.T) {
	s := store(t, "role user role boss: user type Query { a: Int l: [P!] b: String! h: Int @auth(boss) } type P @rows(a = 1) { a: Int }",
		api.Row{Type: "Query", Cells: []api.Cell{{Name: "l", Text: `[@"p" @"q"]`}, {Name: "b", Text: `"\"\\\n\t"`}}}, api.Row{Type: "P", ID: "p", Cells: []api.Cell{{Name: "a", Text: "1"}}}, api.Row{Type: "P", ID: "q"})
	for query, want := range map[string]string{
		"{a b}": `{"data":{"a":null,"b":"\"\\\n\t"}}`, "{x:h a}": `{"data":{"x":null,"a":null},"errors":[{"message":"not available","path":["x"]}]}`, "{l{a}}": `{"data":{"l":null},"errors":[{"message":"not available","path":["l",1]}]}`, "{l{a}h}": `{"data":{"l":null,"h":null},"errors":[{"message":"not available","path":["l",1]},{"message":"not available","path":["h"]}]}`,
		"{": `{"errors":[{"message":"syntax"}]}`, "{a}{a}": `{"errors":[{"message":"operation"}]}`, "{a}fragment F on P{...F}": `{"errors":[{"message":"fragment"}]}`, "query($a:P){a}": `{"errors":[{"message":"variable"}]}`, "{z}": `{"errors":[{"message":"selection"}]}`, "{a b h l{a} c:a}": `{"errors":[{"message":"budget"}]}`,
	} {
		if got := Answer(s, api.Ask{Viewer: api.Viewer{Role: "user"}, Query: query, Budget: 5}); got != want {
			t.Errorf("asked %q: %s, want %s", query, got, want)
		}
	}
	if got := Answer(s, api.Ask{Query: "{a}", Budget: 5}); got != refused("role") {
		t.Errorf("asked by nobody: %s", got)
	}
}

func TestQuoted(t *testing.T) {
	var all strings.Builder
	for c := byte(32); c < 127; c++ {
		if c != '"' && c != '\\' {
			all.WriteByte(c)
		}
	}
	for text, want := range map[string]string{"": `""`, all.String(): `"` + all.String() + `"`, "\"\\\n\t": `"\"\\\n\t"`, `\n`: `"\\n"`} {
		if got := string(quoted([]byte("x"), text)); got != "x"+want {
			t.Errorf("%q is quoted as %s, want %s", text, got[1:], want)
		}
	}
}

func TestStepsAreCounted(t *testing.T) {
	m := &maker{left: 2}
	if !m.step() || !m.step() || m.left < 0 || m.step() || m.left >= 0 {
		t.Errorf("of two steps %d are left", m.left)
	}
}

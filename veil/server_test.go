package veil

import (
	"strconv"
	"strings"
	"sync"
	"testing"
	"unsafe"

	"veil/api"
)

// people is the store of the document's examples.
func people() []api.Row {
	return rows(row("Query", "", "team", `[@"a" @"b" @"z"]`),
		row("Person", "a", "name", `"Ann"`, "open", "true", "pay", "7", "friend", `@"b"`),
		row("Person", "b", "name", `"Bo"`, "open", "false"))
}

func serverOf(t *testing.T, schema string, have ...api.Row) *Server {
	t.Helper()
	s, e := New(schema, have)
	if s == nil || e != api.OK {
		t.Fatalf("New(%.200q, %s) = %v, %d, want a server", schema, told(have), s, e)
	}
	return s
}

// ask has all the steps that there may be.
func ask(role, query string) api.Ask {
	return api.Ask{Viewer: api.Viewer{Role: role}, Query: query, Budget: api.MaxBudget}
}

func wantServe(t *testing.T, s *Server, a api.Ask, want string) {
	t.Helper()
	if got := s.Serve(a); got != want {
		t.Errorf("as %.40q of budget %d, asked %.600q with %.200q:\n got %.900s\nwant %.900s", a.Viewer, a.Budget, a.Query, a.Values, got, want)
	}
}

// data is an answer with errors at these paths.
func data(d string, paths ...string) string {
	if len(paths) == 0 {
		return `{"data":` + d + `}`
	}
	var errors []string
	for _, p := range paths {
		errors = append(errors, `{"message":"not available","path":[`+p+`]}`)
	}
	return `{"data":` + d + `,"errors":[` + strings.Join(errors, ",") + `]}`
}

// refused is an answer to an ask with which something is wrong.
func refused(message string) string { return `{"errors":[{"message":"` + message + `"}]}` }

func wantNoNew(t *testing.T, want api.Errno, schema string, have ...api.Row) {
	t.Helper()
	if s, e := New(schema, have); s != nil || e != want {
		t.Errorf("New(%.120q, %s) = %v, %d, want nil, %d", schema, told(have), s, e, want)
	}
}

func TestNew(t *testing.T) {
	serverOf(t, example)
	serverOf(t, example, people()...)
	serverOf(t, "type Query { a: Int }", row("Query", ""))
	wantNoNew(t, api.ErrSyntax, "")
	wantNoNew(t, api.ErrSyntax, "type Query {}")
	wantNoNew(t, api.ErrSyntax, example+"}", people()...)
	wantNoNew(t, api.ErrSyntax, strings.Repeat(" ", 5000000))
	wantNoNew(t, api.ErrSchema, "role a")
	wantNoNew(t, api.ErrSchema, example+" type Person { a: Int }", people()...)
	wantNoNew(t, api.ErrStore, example, row("Person", ""))
	wantNoNew(t, api.ErrStore, example, row("Nobody", "a"))
	wantNoNew(t, api.ErrStore, example, append(people(), row("Person", "a"))...)
	wantNoNew(t, api.ErrStore, example, row("Person", "a", "name", "1"))
	wantNoNew(t, api.ErrStore, example, row("Person", "a", "name", `"`))
	wantNoNew(t, api.ErrStore, example, row("Query", "", "me", "null"))
	wantNoNew(t, api.ErrStore, example, make([]api.Row, 1000000)...)
}

func TestNewTellsTheFirstError(t *testing.T) {
	bad := row("Nobody", "")
	wantNoNew(t, api.ErrSyntax, "role a role a {", bad)
	wantNoNew(t, api.ErrSchema, "role a role a", bad)
	wantNoNew(t, api.ErrStore, example, bad)
}

// wantPut: whether the server takes a row. If not, its people are told as before.
func wantPut(t *testing.T, s *Server, want api.Errno, r api.Row) {
	t.Helper()
	all := ask("boss", `{team{name open pay note friend{name}}me(id:"c"){name}}`)
	before := s.Serve(all)
	if e := s.Put(r); e != want {
		t.Errorf("Put(%s) = %d, want %d", told(rows(r)), e, want)
	}
	if after := s.Serve(all); want != api.OK && after != before {
		t.Errorf("Put(%s) has error %d and changes %s to %s", told(rows(r)), want, before, after)
	}
}

func wantDrop(t *testing.T, s *Server, want api.Errno, id string) {
	t.Helper()
	if e := s.Drop(id); e != want {
		t.Errorf("Drop(%.40q) = %d, want %d", id, e, want)
	}
}

func TestPut(t *testing.T) {
	s := serverOf(t, example, people()...)
	names := ask("boss", "{team{name pay}}")
	wantPut(t, s, api.OK, row("Person", "z", "name", `"Zoe"`))
	wantServe(t, s, names, data(`{"team":[{"name":"Ann","pay":7},{"name":"Bo","pay":null},{"name":"Zoe","pay":null}]}`))
	wantPut(t, s, api.OK, row("Person", "a", "name", `"Amy"`))
	wantServe(t, s, names, data(`{"team":[{"name":"Amy","pay":null},{"name":"Bo","pay":null},{"name":"Zoe","pay":null}]}`))
	wantPut(t, s, api.OK, row("Query", "", "team", `[@"z"]`))
	wantServe(t, s, names, data(`{"team":[{"name":"Zoe","pay":null}]}`))
	wantPut(t, s, api.OK, row("Query", ""))
	wantServe(t, s, names, data(`{"team":null}`))
	wantServe(t, s, ask("boss", `{me(id:"a"){name}}`), data(`{"me":{"name":"Amy"}}`))
	empty := serverOf(t, example)
	wantPut(t, empty, api.OK, row("Query", "", "team", `[@"a"]`))
	wantPut(t, empty, api.OK, row("Person", "a", "name", `"Al"`))
	wantServe(t, empty, names, data(`{"team":[{"name":"Al","pay":null}]}`))
}

func TestPutOfNoRow(t *testing.T) {
	s := serverOf(t, example, people()...)
	for _, r := range []api.Row{
		{}, row("Person", ""), row("Query", "q"), row("Query", "a"), row("Nobody", "c"), row("Named", "c"), row("", "c"), row("Int", "c"), row("person", "c"),
		row("Person", "c", "nothing", "1"), row("Person", "c", "", "1"), row("Person", "c", "me", "null"), row("Query", "", "me", "null"), row("Query", "", "name", "null"),
		row("Person", "c", "name", `"a"`, "name", `"a"`), row("Person", "a", "pay", "1", "open", "true", "pay", "2"),
		row("Person", "c", "name", "1"), row("Person", "c", "open", `"a"`), row("Person", "c", "pay", "true"), row("Person", "c", "friend", `"a"`), row("Person", "c", "friend", `[@"a"]`), row("Query", "", "team", `@"a"`), row("Query", "", "team", `[@"a" 1]`),
		row("Person", "c", "name", ""), row("Person", "c", "name", `"a`), row("Person", "c", "name", `"a" "b"`), row("Person", "c", "pay", "01"), row("Person", "c", "pay", "\xff"), row("Person", "c", "friend", "@a"), row("Query", "", "team", "["), row("Person", "c", "name", `"`+strings.Repeat("x", api.MaxText)+`"`),
		row("Query", "", "team", strings.Repeat("[", 11)+strings.Repeat("]", 11)), row("Person", "c", "friend", `@""`), row("Query", "", "team", `[@""]`),
	} {
		wantPut(t, s, api.ErrStore, r)
	}
	wantServe(t, s, ask("user", `{me(id:"c"){name}}`), data(`{"me":null}`, `"me"`))
}

// What other rows say of a row may be the reason why another one can't take its place.
func TestPutAgainstOtherRows(t *testing.T) {
	const schema = "role user type Query { p(id: ID): P } type P { p: P r: R q: Query } type R { a: Int }"
	s := serverOf(t, schema, row("P", "a", "p", `@"b"`, "q", `@""`), row("R", "r"), row("P", "c", "r", `@"r"`))
	for _, c := range []struct {
		e api.Errno
		r api.Row
	}{
		{api.ErrStore, row("R", "b")}, {api.OK, row("P", "b")}, {api.ErrStore, row("R", "b")}, {api.ErrStore, row("P", "r")}, {api.ErrStore, row("Query", "")},
		{api.OK, row("R", "a")}, {api.OK, row("R", "b")}, {api.OK, row("Query", "")}, {api.ErrStore, row("P", "a", "q", `@""`)}, {api.ErrStore, row("P", "a", "p", `@"b"`)}, {api.OK, row("P", "a", "p", `@"a"`)},
		{api.ErrStore, row("R", "a", "a", `@"a"`)}, {api.OK, row("P", "c", "r", `@"a2"`)}, {api.OK, row("P", "r")},
	} {
		if e := s.Put(c.r); e != c.e {
			t.Errorf("Put(%s) = %d, want %d", told(rows(c.r)), e, c.e)
		}
	}
	wantServe(t, s, ask("user", `{a:p(id:"a"){p{__typename}}b:p(id:"b"){__typename}r:p(id:"r"){__typename}}`), data(`{"a":{"p":{"__typename":"P"}},"b":null,"r":{"__typename":"P"}}`, `"b"`))
}

func TestPutInAFullStore(t *testing.T) {
	var many []api.Row
	for i := range api.MaxRows {
		many = append(many, row("Person", strconv.Itoa(i), "open", "true"))
	}
	s := serverOf(t, example, many...)
	wantPut(t, s, api.ErrStore, row("Person", "new"))
	wantPut(t, s, api.ErrStore, row("Query", ""))
	wantPut(t, s, api.OK, row("Person", "0", "name", `"first"`))
	wantPut(t, s, api.OK, row("Person", "199", "name", `"last"`))
	wantDrop(t, s, api.OK, "7")
	wantPut(t, s, api.OK, row("Person", "new", "name", `"new"`))
	wantPut(t, s, api.ErrStore, row("Person", "7"))
	wantServe(t, s, ask("boss", `{a:me(id:"0"){name}b:me(id:"199"){name}c:me(id:"new"){name}d:me(id:"7"){open}e:me(id:"8"){open}}`),
		data(`{"a":{"name":"first"},"b":{"name":"last"},"c":{"name":"new"},"d":null,"e":{"open":true}}`, `"d"`))
}

func TestDrop(t *testing.T) {
	s := serverOf(t, example, people()...)
	for _, id := range []string{"z", "A", "a ", "Person", "team", "\xff", strings.Repeat("a", 1000000)} {
		wantDrop(t, s, api.ErrNone, id)
	}
	wantServe(t, s, ask("boss", "{team{name}}"), data(`{"team":[{"name":"Ann"},{"name":"Bo"},null]}`, `"team",2`))
	wantDrop(t, s, api.OK, "a")
	wantDrop(t, s, api.ErrNone, "a")
	wantServe(t, s, ask("boss", "{team{name}}"), data(`{"team":[null,{"name":"Bo"},null]}`, `"team",0`, `"team",2`))
	wantDrop(t, s, api.OK, "")
	wantDrop(t, s, api.ErrNone, "")
	wantServe(t, s, ask("boss", `{team{name}me(id:"b"){name}}`), data(`{"team":null,"me":{"name":"Bo"}}`))
	wantPut(t, s, api.OK, row("Person", "a", "name", `"Ada"`))
	wantPut(t, s, api.OK, row("Query", "", "team", `[@"b" @"a"]`))
	wantServe(t, s, ask("boss", "{team{name}}"), data(`{"team":[{"name":"Bo"},{"name":"Ada"}]}`))
	wantDrop(t, s, api.OK, "b")
	wantDrop(t, s, api.OK, "a")
	wantDrop(t, s, api.OK, "")
	wantServe(t, s, ask("boss", `{team{name}me(id:"b"){name}}`), data(`{"team":null,"me":null}`, `"me"`))
	wantDrop(t, serverOf(t, example), api.ErrNone, "")
}

func TestServersDoNotKeepWhatIsHandedIn(t *testing.T) {
	have := people()
	s := serverOf(t, example, have...)
	all := ask("boss", `{team{name pay}me(id:"b"){open}}`)
	want := data(`{"team":[{"name":"Ann","pay":7},{"name":"Bo","pay":null},null],"me":{"open":false}}`, `"team",2`)
	wantServe(t, s, all, want)
	have[1].Cells[0].Text = `"Eve"`
	have[1].Cells[2].Name = "open"
	have[0].Cells[0] = api.Cell{}
	have[2] = api.Row{}
	wantServe(t, s, all, want)
	put := row("Person", "z", "name", `"Zoe"`)
	wantPut(t, s, api.OK, put)
	put.Cells[0].Text = `"Eve"`
	wantPut(t, s, api.OK, row("Person", "y"))
	wantServe(t, s, all, data(`{"team":[{"name":"Ann","pay":7},{"name":"Bo","pay":null},{"name":"Zoe","pay":null}],"me":{"open":false}}`))
}

// lent is a text whose memory is not its own: once it is taken back, the text is another one.
type lent struct{ bytes [][]byte }

func (l *lent) text(s string) string {
	b := []byte(s + " ")
	l.bytes = append(l.bytes, b)
	return unsafe.String(&b[0], len(s))
}

func (l *lent) takeBack() {
	for _, b := range l.bytes {
		for i := range b {
			b[i] = 'x'
		}
	}
}

func (l *lent) row(r api.Row) api.Row {
	out := api.Row{Type: l.text(r.Type), ID: l.text(r.ID)}
	for _, c := range r.Cells {
		out.Cells = append(out.Cells, api.Cell{Name: l.text(c.Name), Text: l.text(c.Text)})
	}
	return out
}

func TestServersDoNotKeepTexts(t *testing.T) {
	var l lent
	var have []api.Row
	for _, r := range people() {
		have = append(have, l.row(r))
	}
	s := serverOf(t, l.text(example), have...)
	wantPut(t, s, api.OK, l.row(row("Person", "z", "name", `"Zoe"`, "open", "true")))
	wantDrop(t, s, api.OK, l.text("b"))
	a := ask(l.text("user"), l.text(`query($x:ID){me(id:$x){n:name friend{name}}team{name}__types __fields(type:"Person")}`))
	a.Values = l.text(`{"x":"a"}`)
	got := s.Serve(a)
	seen, e := Sees(l.text(example), have, api.Viewer{Role: l.text("user")})
	l.takeBack()
	want := data(`{"me":{"n":"Ann","friend":null},"team":[{"name":"Ann"},null,{"name":"Zoe"}],"__types":["Query","Named","Person"],"__fields":["name","open","pay","friend"]}`, `"me","friend"`, `"team",1`)
	if got != want {
		t.Errorf("an answer has become %s, want %s", got, want)
	}
	if e != api.OK || !sameRows(seen, rows(people()[0], row("Person", "a", "name", `"Ann"`, "open", "true", "friend", `@"b"`))) {
		t.Errorf("what is seen has become %s, %d", told(seen), e)
	}
	b := ask("user", `query($x:ID){me(id:$x){n:name friend{name}}team{name}__types __fields(type:"Person")}`)
	b.Values = `{"x":"a"}`
	wantServe(t, s, b, want)
	wantPut(t, s, api.OK, row("Person", "b", "name", `"Bea"`, "open", "true"))
	wantServe(t, s, ask("user", "{team{name}}"), data(`{"team":[{"name":"Ann"},{"name":"Bea"},{"name":"Zoe"}]}`))
}

func TestServersDoNotChangeWhatIsHandedIn(t *testing.T) {
	have := people()
	spare := append(make([]api.Row, 0, 9), have...)
	for i := range spare {
		spare[i].Cells = append(make([]api.Cell, 0, 9), have[i].Cells...)
	}
	s := serverOf(t, example, spare...)
	put := api.Row{Type: "Person", ID: "z", Cells: append(make([]api.Cell, 0, 9), api.Cell{Name: "name", Text: ` "Zoe" `})}
	wantPut(t, s, api.OK, put)
	wantDrop(t, s, api.OK, "a")
	s.Serve(ask("user", "{team{name friend{name}}}"))
	if !sameRows(spare, have) || !sameRows(rows(put), rows(row("Person", "z", "name", ` "Zoe" `))) {
		t.Errorf("rows are changed to %s, %s", told(spare), told(rows(put)))
	}
	for _, r := range append([]api.Row{put}, spare...) {
		for _, c := range r.Cells[len(r.Cells):cap(r.Cells)] {
			if c != (api.Cell{}) {
				t.Errorf("the spare room of a row's cells has %v", c)
			}
		}
	}
	for _, r := range spare[len(spare):cap(spare)] {
		if !sameRows(rows(r), make([]api.Row, 1)) {
			t.Errorf("the spare room of the rows has %v", r)
		}
	}
}

func TestServersDoNotShare(t *testing.T) {
	have := people()
	one, two := serverOf(t, example, have...), serverOf(t, example, have...)
	wantDrop(t, one, api.OK, "a")
	wantPut(t, one, api.OK, row("Person", "b", "name", `"Eve"`))
	wantServe(t, one, ask("boss", "{team{name}}"), data(`{"team":[null,{"name":"Eve"},null]}`, `"team",0`, `"team",2`))
	wantServe(t, two, ask("boss", "{team{name}}"), data(`{"team":[{"name":"Ann"},{"name":"Bo"},null]}`, `"team",2`))
}

// A call that only asks leaves a server as it is, whoever asks.
func TestServeChangesNothing(t *testing.T) {
	s := serverOf(t, example, people()...)
	all := ask("boss", "{team{name pay friend{name}}}")
	want := data(`{"team":[{"name":"Ann","pay":7,"friend":{"name":"Bo"}},{"name":"Bo","pay":null,"friend":null},null]}`, `"team",2`)
	for _, a := range []api.Ask{all, ask("user", "{team{name pay}}"), ask("nobody", "{"), ask("user", "{nothing}"), {}, {Query: "\x00", Values: "\xff", Budget: -1 << 63}, all} {
		first := s.Serve(a)
		wantServe(t, s, a, first)
		wantServe(t, s, all, want)
	}
}

// What is asked while rows change is answered of the rows as they were at one time.
func TestServersAreAskedFromManySides(t *testing.T) {
	s := serverOf(t, "role user type Query { p(id: ID): P l: [P] } type P { a: Int b: Int }", row("Query", "", "l", `[@"p" @"p"]`), row("P", "p", "a", "0", "b", "0"))
	possible := map[string]int{}
	for i := range 8 {
		n := strconv.Itoa(i)
		one := `{"a":` + n + `,"b":` + n + `}`
		possible[data(`{"l":[`+one+`,`+one+`],"p":`+one+`}`)]++
	}
	possible[data(`{"l":[null,null],"p":null}`, `"l",0`, `"l",1`, `"p"`)]++
	var all sync.WaitGroup
	for i := range 8 {
		n := strconv.Itoa(i)
		all.Go(func() {
			for range 50 {
				if e := s.Put(row("P", "p", "a", n, "b", n)); e != api.OK {
					t.Errorf("Put: %d", e)
				}
				if got := s.Serve(ask("user", `{l{a b}p(id:"p"){a b}}`)); possible[got] == 0 {
					t.Errorf("asked from many sides: %s", got)
				}
				s.Drop("p")
				s.Put(row("P", "p"+n))
			}
		})
	}
	all.Wait()
	for i := range 8 {
		wantDrop(t, s, api.OK, "p"+strconv.Itoa(i))
	}
}

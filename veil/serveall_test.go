package veil

import (
	"fmt"
	"slices"
	"strconv"
	"strings"
	"sync"
	"testing"

	"veil/api"
	"veil/token"
)

// wantList: the asks are answered together with these answers, in order, and stay as they are.
func wantList(t *testing.T, s *Server, asks []api.Ask, want []string) {
	t.Helper()
	before := slices.Clone(asks)
	got, e := s.ServeAll(asks)
	if e != api.OK || len(got) != len(asks) {
		t.Fatalf("ServeAll of %d asks: %d answers, %d", len(asks), len(got), e)
	}
	for i, a := range before {
		if got[i] != want[i] {
			t.Errorf("ask %d of %d, as %.40q of budget %d, asked %.600q with %.200q:\n got %.900s\nwant %.900s", i, len(asks), a.Viewer, a.Budget, a.Query, a.Values, got[i], want[i])
		}
	}
	if !slices.Equal(asks, before) {
		t.Errorf("the asks %.900s are changed to %.900s", fmt.Sprint(before), fmt.Sprint(asks))
	}
}

// wantAll: the asks are answered together as each one is alone. It takes any number of them, and asks as many at once as may be.
func wantAll(t *testing.T, s *Server, asks ...api.Ask) {
	t.Helper()
	for some := range slices.Chunk(asks, api.MaxAsks) {
		var want []string
		for _, a := range some {
			want = append(want, s.Serve(a))
		}
		wantList(t, s, some, want)
	}
}

// wantTooMany: so many asks are refused.
func wantTooMany(t *testing.T, s *Server, asks []api.Ask) {
	t.Helper()
	if got, e := s.ServeAll(asks); got != nil || e != api.ErrArg {
		t.Errorf("ServeAll of %d asks = %.300q, %d, want nil, %d", len(asks), got, e, api.ErrArg)
	}
}

// answered is an ask with its answer.
type answered struct {
	a    api.Ask
	want string
}

// wantAnswered asks them all together: as they stand, the other way round, and each one as often as may be.
func wantAnswered(t *testing.T, s *Server, list ...answered) {
	t.Helper()
	var asks []api.Ask
	var want []string
	for _, x := range list {
		asks, want = append(asks, x.a), append(want, x.want)
		wantList(t, s, slices.Repeat([]api.Ask{x.a}, api.MaxAsks), slices.Repeat([]string{x.want}, api.MaxAsks))
	}
	wantList(t, s, asks, want)
	slices.Reverse(asks)
	slices.Reverse(want)
	wantList(t, s, asks, want)
}

func TestServeAllExamples(t *testing.T) {
	wantAnswered(t, serverOf(t, example, people()...),
		answered{ask("user", `{team{name}}`), data(`{"team":[{"name":"Ann"},null,null]}`, `"team",1`, `"team",2`)},
		answered{ask("boss", `{team{name}}`), data(`{"team":[{"name":"Ann"},{"name":"Bo"},null]}`, `"team",2`)},
		answered{ask("user", `{me(id:"a"){n:name pay}}`), data(`{"me":{"n":"Ann","pay":null}}`, `"me","pay"`)},
		answered{ask("user", `{me(id:"b"){name}}`), data(`{"me":null}`, `"me"`)},
		answered{ask("user", `{me(id:"a"){note}}`), refused("selection")},
		answered{ask("boss", `{me(id:"a"){note}}`), data(`{"me":{"note":null}}`)},
		answered{ask("user", `{__fields(type:"Person")}`), data(`{"__fields":["name","open","pay","friend"]}`)},
		answered{ask("user", `query($x:ID!="a"){me(id:$x){...on Named{name}...F}}fragment F on Person{name open@skip(if:true)}`), data(`{"me":{"name":"Ann"}}`)})
}

// Each thing that may be wrong with an ask is told of that one alone.
func TestServeAllOfWrongAsks(t *testing.T) {
	user := api.Viewer{Role: "user"}
	wantAnswered(t, worldly(t),
		answered{api.Ask{Viewer: user, Query: "{ints", Budget: 9}, refused("syntax")},
		answered{api.Ask{Viewer: api.Viewer{Role: "nobody"}, Query: "{ints}", Budget: 9}, refused("role")},
		answered{api.Ask{Viewer: user, Query: "{ints}{ints}", Budget: 9}, refused("operation")},
		answered{api.Ask{Viewer: user, Query: "{ints}fragment F on P{...F}", Budget: 9}, refused("fragment")},
		answered{api.Ask{Viewer: user, Query: "query($a:Int){ints}", Values: `{"a":"x"}`, Budget: 9}, refused("variable")},
		answered{api.Ask{Viewer: user, Query: "{nothing}", Budget: 9}, refused("selection")},
		answered{api.Ask{Viewer: user, Query: "{ints}", Budget: 3}, refused("budget")},
		answered{api.Ask{Viewer: user, Query: "{ints}", Budget: 4}, data(`{"ints":[1,2,3]}`)})
}

// What one viewer may see, and what values and budgets one ask has, is nothing to the others.
func TestServeAllOfDifferentViewers(t *testing.T) {
	s := serverOf(t, "role user role boss: user role aide type Query { l: [P] n(first: Int): [Int] } type P @rows(owner = viewer or is boss) { owner: ID pay: Int! @auth(boss) note: Int @hide(aide) }",
		row("Query", "", "l", `[@"a" @"b"]`, "n", "[1 2 3]"), row("P", "a", "owner", `"A"`, "pay", "1", "note", "3"), row("P", "b", "owner", `"B"`, "pay", "2", "note", "4"))
	as := func(role, id, query, values string) api.Ask {
		return api.Ask{Viewer: api.Viewer{Role: role, ID: id}, Query: query, Values: values, Budget: 20}
	}
	const owners, first = "{l{owner}}", "query($i:Int){n(first:$i)}"
	wantAnswered(t, s,
		answered{as("user", "A", owners, ""), data(`{"l":[{"owner":"A"},null]}`, `"l",1`)},
		answered{as("user", "B", owners, ""), data(`{"l":[null,{"owner":"B"}]}`, `"l",0`)},
		answered{as("boss", "C", owners, ""), data(`{"l":[{"owner":"A"},{"owner":"B"}]}`)},
		answered{as("boss", "", "{l{pay}}", ""), data(`{"l":[{"pay":1},{"pay":2}]}`)},
		answered{as("user", "B", "{l{pay}}", ""), data(`{"l":[null,null]}`, `"l",0`, `"l",1,"pay"`)},
		answered{as("aide", "A", "{l{note}}", ""), data(`{"l":[{"note":3},null]}`, `"l",1`)},
		answered{as("aide", "A", first, `{"i":1}`), data(`{"n":[1]}`)},
		answered{as("aide", "A", first, `{"i":2}`), data(`{"n":[1,2]}`)})
}

// many has numbers that take long to tell.
func many(t *testing.T) *Server {
	t.Helper()
	return serverOf(t, "role user type Query { l(first: Int): [Int] }", row("Query", "", "l", "["+strings.Repeat("7 ", 790)+"]"))
}

// firstOf asks for the first numbers, under a key of its own.
func firstOf(place, n int) api.Ask {
	return ask("user", "{k"+strconv.Itoa(place)+":l(first:"+strconv.Itoa(n)+")}")
}

func sevens(place, n int) string {
	return data(`{"k` + strconv.Itoa(place) + `":[` + strings.TrimSuffix(strings.Repeat("7,", n), ",") + "]}")
}

// The asks that come first take longest: whoever is ready first, the answers stand in the order of the asks.
func TestServeAllOfEachNumber(t *testing.T) {
	s := many(t)
	wantList(t, s, nil, nil)
	for n := range api.MaxAsks + 1 {
		var asks []api.Ask
		var want []string
		for i := range n {
			long := (n - 1 - i) * 100
			asks, want = append(asks, firstOf(i, long)), append(want, sevens(i, long))
		}
		for range 100 {
			wantList(t, s, asks, want)
			wantList(t, s, append([]api.Ask{}, asks...), want)
		}
	}
}

func TestServeAllOfTooMany(t *testing.T) {
	s := serverOf(t, example, people()...)
	all := ask("boss", "{team{name pay friend{name}}}")
	before := s.Serve(all)
	for _, n := range []int{api.MaxAsks + 1, api.MaxAsks + 2, 2 * api.MaxAsks, 255, 256, 257, 100000} {
		wantTooMany(t, s, slices.Repeat([]api.Ask{all}, n))
		wantTooMany(t, s, make([]api.Ask, n))
		wantTooMany(t, s, slices.Repeat([]api.Ask{ask("nobody", "{")}, n))
		wantServe(t, s, all, before)
	}
	right := slices.Repeat([]api.Ask{all}, api.MaxAsks+1)
	wantTooMany(t, s, right)
	wantAll(t, s, right[:api.MaxAsks]...)
	wantAll(t, s, right[1:]...)
}

// Asks are answered of the rows that there are when they are asked.
func TestServeAllBehindChanges(t *testing.T) {
	s := serverOf(t, example, people()...)
	asks := []api.Ask{ask("boss", "{team{name}}"), ask("user", `{me(id:"z"){name}}`), ask("user", "{")}
	wantList(t, s, asks, []string{data(`{"team":[{"name":"Ann"},{"name":"Bo"},null]}`, `"team",2`), data(`{"me":null}`, `"me"`), refused("syntax")})
	wantPut(t, s, api.OK, row("Person", "z", "name", `"Zoe"`, "open", "true"))
	wantList(t, s, asks, []string{data(`{"team":[{"name":"Ann"},{"name":"Bo"},{"name":"Zoe"}]}`), data(`{"me":{"name":"Zoe"}}`), refused("syntax")})
	wantPut(t, s, api.ErrStore, row("Person", "z", "name", "1"))
	wantDrop(t, s, api.ErrNone, "y")
	wantDrop(t, s, api.OK, "a")
	wantList(t, s, asks, []string{data(`{"team":[null,{"name":"Bo"},{"name":"Zoe"}]}`, `"team",0`), data(`{"me":{"name":"Zoe"}}`), refused("syntax")})
	wantDrop(t, s, api.OK, "")
	wantList(t, s, asks, []string{data(`{"team":null}`), data(`{"me":{"name":"Zoe"}}`), refused("syntax")})
}

// What lies behind the asks, in the same memory, is nobody's to change.
func TestServeAllChangesNothingHandedIn(t *testing.T) {
	s := serverOf(t, example, people()...)
	asks := make([]api.Ask, 0, 2*api.MaxAsks)
	for i := range cap(asks) {
		asks = append(asks, ask("user", "{k"+strconv.Itoa(i)+":team{name}}"))
	}
	before := slices.Clone(asks)
	for n := range cap(asks) + 1 {
		s.ServeAll(asks[:n])
		if !slices.Equal(asks, before) {
			t.Fatalf("ServeAll of %d asks changes them to %.900s", n, fmt.Sprint(asks))
		}
	}
}

func TestServeAllKeepsNothingHandedIn(t *testing.T) {
	var l lent
	s := serverOf(t, example, people()...)
	texts := []string{`{team{name}}`, `{`, `{__types __fields(type:"Person")}`, `query($x:ID){key:me(id:$x){name __typename}}`, `{nothing}`}
	var asks, plain []api.Ask
	var want []string
	for _, text := range texts {
		a := api.Ask{Viewer: api.Viewer{Role: "user", ID: "me"}, Query: text, Values: `{"x":"a"}`, Budget: 50}
		plain, want = append(plain, a), append(want, s.Serve(a))
		asks = append(asks, api.Ask{Viewer: api.Viewer{Role: l.text("user"), ID: l.text("me")}, Query: l.text(text), Values: l.text(a.Values), Budget: 50})
	}
	got, e := s.ServeAll(asks)
	l.takeBack()
	clear(asks)
	if e != api.OK || !slices.Equal(got, want) {
		t.Errorf("answers have become %q, %d, want %q", got, e, want)
	}
	wantList(t, s, plain, want)
}

// What is done to an answer, its spare room too, is not to be seen in any other one.
func TestServeAllAnswersNewMemory(t *testing.T) {
	s := serverOf(t, example, people()...)
	asks := []api.Ask{ask("user", "{team{name}}"), ask("boss", "{team{name}}"), ask("user", "{")}
	want := []string{s.Serve(asks[0]), s.Serve(asks[1]), s.Serve(asks[2])}
	var lists [][]string
	for range 5 {
		list, e := s.ServeAll(asks)
		if e != api.OK {
			t.Fatalf("ServeAll: error %d", e)
		}
		lists = append(lists, list)
	}
	for i, list := range lists {
		if !slices.Equal(list, want) {
			t.Errorf("answer %d has become %q, want %q", i, list, want)
		}
		_ = append(list, "more", "more")
		whole := list[:cap(list)]
		for j := range whole {
			whole[j] = "changed"
		}
	}
	wantList(t, s, asks, want)
	none, _ := s.ServeAll(nil)
	_ = append(none, "more")
	wantList(t, s, asks[:1], want[:1])
}

// A call that only asks leaves a server as it is.
func TestServeAllChangesNoServer(t *testing.T) {
	s := serverOf(t, example, people()...)
	all := ask("boss", "{team{name pay friend{name}}}")
	before := s.Serve(all)
	for _, asks := range [][]api.Ask{nil, {all}, {{}, {Query: "\x00", Values: "\xff", Budget: -1 << 63}, ask("nobody", "{team{name}}")}, make([]api.Ask, api.MaxAsks), make([]api.Ask, api.MaxAsks+1)} {
		s.ServeAll(asks)
		wantServe(t, s, all, before)
	}
}

// Whatever is asked, and whatever is asked beside it, there is an end and each answer is the right one.
func TestServeAllTakesAnything(t *testing.T) {
	texts := []string{"", "{", "{ints}", "query", "...", "$", "\x00\xff", `{"a":1}`, `"`, "{...F}", "{a(b:$c)@skip(if:$d){e}}", strings.Repeat("{a", 300), strings.Repeat("(", 800), strings.Repeat("\"", 801), strings.Repeat("x", 1000000), "query($a:Int=1){ints(first:$a)}", "é", "{__typename __types}"}
	d := dice(3)
	var asks []api.Ask
	for _, query := range texts {
		for _, values := range texts {
			for range 3 {
				asks = append(asks, api.Ask{Viewer: api.Viewer{Role: pick(&d, "user", "boss", "aide", "", "\xff"), ID: pick(&d, texts...)}, Query: query, Values: values, Budget: pick(&d, -1<<63, 0, 7, 5000, 1<<63-1)})
			}
		}
	}
	for i := range asks {
		j := d.below(i + 1)
		asks[i], asks[j] = asks[j], asks[i]
	}
	wantAll(t, worldly(t), asks...)
}

// endless asks for as much again at each fragment: without the budget there would be no end.
func endless(each string) string {
	var b strings.Builder
	b.WriteString("{p{...F0}}")
	for i := range 20 {
		b.WriteString("fragment F" + strconv.Itoa(i) + " on P{" + strings.ReplaceAll(each, "NEXT", "...F"+strconv.Itoa(i+1)) + "}")
	}
	return b.String() + "fragment F20 on P{__typename}"
}

func TestServeAllEnds(t *testing.T) {
	s := serverOf(t, "role user type Query { p: P } type P { p: P l: [P!]! }", row("Query", "", "p", `@"a"`), row("P", "a", "p", `@"a"`, "l", "["+strings.Repeat(`@"a"`, 300)+"]"))
	two, list := ask("user", endless("a:p{NEXT}b:p{NEXT}")), ask("user", endless("l{NEXT}"))
	asks := []api.Ask{two, list, ask("user", endless("p{NEXT}")), list, two, ask("user", "{p{__typename}}"), list, two}
	b, whole := refused("budget"), data(`{"p":{"__typename":"P"}}`)
	deep := data(`{"p":` + strings.Repeat(`{"p":`, 20) + `{"__typename":"P"}` + strings.Repeat("}", 20) + "}")
	wantList(t, s, asks, []string{b, b, deep, b, b, whole, b, b})
}

// TestServeAllWordForWord holds answers to random asks, of different viewers together, against what the document says, read word for word.
func TestServeAllWordForWord(t *testing.T) {
	d := dice(4)
	kinds := map[string]int{}
	for range 300 {
		schema := d.schema()
		have := d.rows(schema)
		var asks []api.Ask
		var want []string
		for range d.below(api.MaxAsks + 1) {
			text, sels, fragments := d.query(schema)
			if _, ok := token.Cut(text); !ok {
				continue
			}
			a := api.Ask{Viewer: api.Viewer{Role: pick(&d, "user", "boss", "aide"), ID: pick(&d, "me", "you")}, Query: text, Values: litValues, Budget: pick(&d, api.MaxBudget, d.below(30))}
			l := &literal{schema: schema, rows: have, fragments: fragments, vars: litVars(), viewer: a.Viewer}
			asks, want = append(asks, a), append(want, l.answer(sels, a.Budget))
			kinds[kindOf(want[len(want)-1])]++
		}
		wantList(t, serverOf(t, schema.text(), litTold(have)...), asks, want)
	}
	for _, kind := range []string{refused("selection"), refused("budget"), "null", "failed", "whole"} {
		if kinds[kind] < 30 {
			t.Errorf("only %d answers are %s", kinds[kind], kind)
		}
	}
}

// crowd is a server that is asked from many sides while its row p changes. Whoever changes it has rows of their own besides.
type crowd struct {
	*testing.T
	*Server
	possible map[string]int // what may be told of p
}

const (
	askP   = `{l{a b}p(id:"p"){a b}}`
	writes = 40 // of each of the crowd
)

func newCrowd(t *testing.T, size int) *crowd {
	c := &crowd{T: t, Server: serverOf(t, "role user type Query { p(id: ID): P l: [P] } type P { a: Int b: Int }", row("Query", "", "l", `[@"p" @"p"]`), row("P", "p", "a", "0", "b", "0"))}
	c.possible = map[string]int{data(`{"l":[null,null],"p":null}`, `"l",0`, `"l",1`, `"p"`): 1}
	for i := range size {
		n := strconv.Itoa(i)
		one := `{"a":` + n + `,"b":` + n + `}`
		c.possible[data(`{"l":[`+one+`,`+one+`],"p":`+one+`}`)] = 1
	}
	return c
}

// write changes p, and at last leaves the rows of its own as wantOwn wants them.
func (c *crowd) write(n string) {
	for i := range writes {
		c.put(row("P", "p", "a", n, "b", n), api.OK)
		c.put(row("P", "p", "a", n, "b", `"x"`), api.ErrStore)
		c.put(row("P", "own"+n, "a", n, "b", strconv.Itoa(i)), api.OK)
		c.put(row("P", "gone"+n), api.OK)
		if e := c.Drop("gone" + n); e != api.OK {
			c.Errorf("Drop beside others: %d", e)
		}
		c.Drop("p")
	}
}

func (c *crowd) put(r api.Row, want api.Errno) {
	if e := c.Put(r); e != want {
		c.Errorf("Put(%s) beside others: %d, want %d", told(rows(r)), e, want)
	}
}

// serve asks for one answer.
func (c *crowd) serve() {
	for range writes {
		if got := c.Serve(ask("user", askP)); c.possible[got] == 0 {
			c.Errorf("asked beside others: %s", got)
		}
	}
}

// serveAll asks for many answers: all of them are told of the same rows.
func (c *crowd) serveAll() {
	asks := slices.Repeat([]api.Ask{ask("user", askP)}, api.MaxAsks)
	asks[3], asks[5] = ask("user", "{"), ask("nobody", askP)
	for range writes {
		got, e := c.ServeAll(asks)
		if e != api.OK || len(got) != len(asks) || c.possible[got[0]] == 0 {
			c.Errorf("asked beside others: %q, %d", got, e)
			return
		}
		want := slices.Repeat(got[:1], api.MaxAsks)
		want[3], want[5] = refused("syntax"), refused("role")
		if !slices.Equal(got, want) {
			c.Errorf("asked beside others: %q, want %q", got, want)
		}
		wantTooMany(c.T, c.Server, make([]api.Ask, api.MaxAsks+1))
	}
}

// wantOwn asks for what is there when all have gone.
func (c *crowd) wantOwn(n string) {
	c.Helper()
	last := strconv.Itoa(writes - 1)
	wantList(c.T, c.Server, []api.Ask{ask("user", `{p(id:"own`+n+`"){a b}}`), ask("user", `{p(id:"gone`+n+`"){a b}}`)}, []string{data(`{"p":{"a":` + n + `,"b":` + last + `}}`), data(`{"p":null}`, `"p"`)})
}

func TestServeAllFromManySides(t *testing.T) {
	const size = 6
	c := newCrowd(t, size)
	var all sync.WaitGroup
	for i := range size {
		all.Go(func() { c.write(strconv.Itoa(i)) })
		all.Go(c.serve)
		all.Go(c.serveAll)
	}
	all.Wait()
	for i := range size {
		c.wantOwn(strconv.Itoa(i))
	}
	c.put(row("P", "p", "a", "8", "b", "9"), api.OK)
	wantList(t, c.Server, []api.Ask{ask("user", askP), ask("user", "{l{b}}")}, []string{data(`{"l":[{"a":8,"b":9},{"a":8,"b":9}],"p":{"a":8,"b":9}}`), data(`{"l":[{"b":9},{"b":9}]}`)})
}

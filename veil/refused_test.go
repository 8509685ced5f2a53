package veil

import (
	"strconv"
	"strings"
	"testing"

	"veil/api"
)

// world has a type for each way in which selections are good or not.
const world = `role user role boss: user role aide
interface L { ints(first: Int): [Int] }
interface N { id: ID! name: String pal: P note: String @hide(boss) }
interface Lone { x: Int }
union U = P | Q
union W = Q | Query
type Query implements L { ints(first: Int): [Int] flag: Boolean must: Int! p(id: ID): P u(id: ID): U! n(id: ID): N w(id: ID): W q: Query lone: Lone ps(first: Int): [P] us: [U!] hid(id: ID): P @hide(boss) shut: Int @auth(boss) on: Int query: Int }
type P implements N { id: ID! name: String pal: P note: String @hide(boss) age: Int to(first: Int): [P!]! u: U same: Int }
type Q implements N { id: ID! name: String pal: P note: String @hide(boss) x: Int same: P }`

func worldly(t *testing.T) *Server {
	t.Helper()
	return serverOf(t, world, row("Query", "", "ints", "[1 2 3]", "flag", "true", "must", "7", "ps", `[@"a" @"b"]`, "us", `[@"a" @"q"]`),
		row("P", "a", "id", `"a"`, "name", `"Ann"`, "pal", `@"b"`, "age", "3", "to", `[@"b"]`, "u", `@"q"`, "same", "1"),
		row("P", "b", "id", `"b"`, "to", "[]"), row("Q", "q", "id", `"q"`, "x", "5", "pal", `@"a"`, "same", `@"b"`))
}

// wantRefused: each of the queries is refused for this reason, whoever asks.
func wantRefused(t *testing.T, message string, queries ...string) {
	t.Helper()
	s := worldly(t)
	for _, q := range queries {
		wantServe(t, s, ask("user", q), refused(message))
		wantServe(t, s, ask("boss", q), refused(message))
	}
}

// wantTaken: each of the queries is answered, without an error.
func wantTaken(t *testing.T, queries ...string) {
	t.Helper()
	s := worldly(t)
	for _, q := range queries {
		if got := s.Serve(ask("user", q)); !strings.HasPrefix(got, `{"data":{`) || strings.Contains(got, `"errors":`) {
			t.Errorf("asked %.600q: %.300s", q, got)
		}
	}
}

func TestQueriesWrittenWell(t *testing.T) {
	wantTaken(t, "{ints}", "query{ints}", "query Q{ints}", "query query{ints}", "query fragment{ints}", "query on($a:Int){ints}", "query($a:Int){ints}", "query Q($a:Int$b:ID!=\"\"){ints}", "{on}", "{query}", "{on:ints}", "{on:query}", "{query:on}", "{fragment:ints}", "{true:ints null:ints skip:flag include:flag if:flag}", "{_:ints __a:ints}",
		",{,ints,},", "#\n{ints#}\n}#", "\t{\r\nints }", "{ints ints}", "{a:ints}", "{ a : ints ( first : 1 ) @ skip ( if : false ) }", "{ints(first:-0)}", "{ints(first:null)}",
		"query($a:Int=1$b:String=\"\"$c:Boolean=true$d:ID=null){ints}", "query($a:Int!=-1){ints(first:$a)}", "query($ a : Int = 1 ) { ints ( first : $ a ) }", "query($query:Int$on:Int$true:Int){ints(first:$true)}",
		"{...{ints}}", "{...@skip(if:true){ints}}", "{...on Query{ints}}", "{...on Query@skip(if:false)@include(if:true){ints}}", "{...F}fragment F on Query{ints}", "fragment F on Query{ints}{...F@include(if:true)@include(if:false)}", "fragment F on Query{ints}query{...F}fragment G on Query{...F}",
		"{...fragment}fragment fragment on Query{ints}", "{...query}fragment query on Query{ints}", "{...skip@skip(if:true)}fragment skip on Query{ints}", "{ints}fragment F on on{a}", "{ints}fragment F on Nothing{a}",
		"{p(id:\"a\"){id}}", "{p(id:\"a\")@skip(if:true){id}}", "{a:p(id:\"a\")@include(if:true)@skip(if:false)@skip(if:false){b:id}}")
}

func TestQueriesWrittenWrongly(t *testing.T) {
	wantRefused(t, "syntax", "", " ", "#{ints}", ",", "{", "}", "{}", "{ }", "{ints", "ints", "{ints}}", "{ints}]", "{{ints}}", "{ints}ints", "{ints}\"a\"", "{ints}1", "{1}", "{\"ints\"}", "{$a}", "{ints!}", "{@skip(if:true)}", "{ints}...F", "[ints]", "(ints)",
		"mutation{ints}", "Query{ints}", "QUERY{ints}", "query", "query Q", "query Q R{ints}", "query{}", "query(){ints}", "query Q(){ints}", "query($a:Int)", "query($a:Int)Q{ints}", "query Q@skip(if:true){ints}", "query\"Q\"{ints}",
		"query(a:Int){ints}", "query($a){ints}", "query($a:){ints}", "query($:Int){ints}", "query($a Int){ints}", "query($a:Int!!){ints}", "query($a:[Int]){ints}", "query($a:!){ints}", "query($a:Int=){ints}", "query($a:Int=$b){ints}", "query($a:Int=[1]){ints}", "query($a:Int=b){ints}", "query($a:Int=!){ints}", "query($a:Int=@\"a\"){ints}", "query($a:Int=1!){ints}", "query($a:Int@skip(if:true)){ints}", "query($a:Int{ints}", "query($a:Int b:Int){ints}", "query($1:Int){ints}", "query($\"a\":Int){ints}", "query($$a:Int){ints}",
		"fragment", "fragment F", "fragment F on", "fragment F on P", "fragment F on P{}", "fragment on on P{id}", "fragment on P{id}", "fragment F P{id}", "fragment F:P{id}", "fragment F on P P{id}", "fragment{id}", "fragment F on P($a:Int){id}", "fragment F on P@skip(if:true){id}", "{ints}fragment F on [P]{id}", "{ints}fragment F on P!{id}", "{ints}fragment on on P{id}", "{ints}fragment F On P{id}",
		"{ints()}", "{ints(}", "{ints)}", "{ints(first)}", "{ints(first:)}", "{ints(:1)}", "{ints(first=1)}", "{ints(first:1}", "{ints(first:x)}", "{ints(first:$)}", "{ints(first:$1)}", "{ints(first:$\"a\")}", "{ints(first:[1])}", "{ints(first:{a:1})}", "{ints(first:!)}", "{ints(first:@\"a\")}", "{ints(first:01)}", "{ints(first:1000000000)}", "{ints(first:1.5)}", "{ints(first:viewer)}", "{ints(first:1)(first:1)}", "{ints(\"first\":1)}", "{ints(first:1 2)}", "{ints($a:1)}",
		"{a:}", "{:ints}", "{a:b:ints}", "{a::ints}", "{a:1}", "{a:...F}", "{a:{ints}}", "{ints:}", "{ints{}}", "{p(id:\"a\"){}}", "{p(id:\"a\"){id}{id}}", "{p{id}(id:\"a\")}", "{p{id}@skip(if:true)}", "{p@skip(if:true)(id:\"a\"){id}}",
		"{ints@}", "{ints@skip}", "{ints@skip()}", "{ints@skip(if)}", "{ints@skip(if:)}", "{ints@skip(if=true)}", "{ints@skip(if:true}", "{ints@skip(unless:true)}", "{ints@skip(if:true if:true)}", "{ints@skip(if:True)}", "{ints@skip(if:[true])}", "{ints@hide(if:true)}", "{ints@auth(user)}", "{ints@Skip(if:true)}", "{ints@\"skip\"(if:true)}", "{ints@if(skip:true)}", "{ints skip(if:true)@}", "{ints@@skip(if:true)}", "{ints@skip(\"if\":true)}", "{ints@skip(if:true){}}",
		"{...}", "{....F}", "{..F}", "{...on}", "{...on P}", "{...on{ints}}", "{...on Query{}}", "{...on Query}", "{...on Query Query{ints}}", "{...on@skip(if:true){ints}}", "{...on\"Query\"{ints}}", "{...Query{ints}}", "{...F{ints}}", "{...F(a:1)}", "{...F:G}", "{a:...F}", "{...1}", "{...\"F\"}", "{...$F}", "{...@skip(if:true)}", "{...@skip(if:true)on Query{ints}}", "{...(a:1){ints}}", "{... ...F}", "{...F@skip}", "{...{}}",
		"\x00", "{ints\x00}", "{ints}\xff", "{ints}\x7f", "{ints;}", "{ints\u00a0}", "\ufeff{ints}", "{ints}.", "{ints}?", "{ints(first:1a)}", "{p(id:\"a){id}}", "{p(id:\"\\q\"){id}}", "{p(id:\"\n\"){id}}", "{p(id:'a'){id}}", "{p(id:\"\u00e9\"){id}}")
}

func TestQueriesOfLimitedDepth(t *testing.T) {
	nested := func(open string, n int, inside string) string {
		return strings.Repeat(open, n) + inside + strings.Repeat("}", n)
	}
	for _, open := range []string{"{...", "{...on Query", "{...@skip(if:false)"} {
		wantTaken(t, nested(open, api.MaxDepth-1, "{ints}"))
		wantRefused(t, "syntax", nested(open, api.MaxDepth, "{ints}"))
	}
	wantTaken(t, nested("{q", api.MaxDepth-1, "{ints}"), "{q{ints}}"+nested("fragment F on Query{q", 1, nested("{q", api.MaxDepth-2, "{ints}")), "query"+nested("{q", api.MaxDepth-1, "{ints}"))
	wantRefused(t, "syntax", nested("{q", api.MaxDepth, "{ints}"), "{q{ints}}"+nested("fragment F on Query{q", 1, nested("{q", api.MaxDepth-1, "{ints}")), "query"+nested("{q", api.MaxDepth, "{ints}"), nested("{", 400, ""), strings.Repeat("{a", 400), strings.Repeat("{...", 266))
	nine := nested("{q", api.MaxDepth-2, "{ints}")
	wantTaken(t, "{a:q"+nine+"b:q"+nine+"c:ints ..."+nine+"}")
	wantRefused(t, "syntax", "{a:q"+nine+"b:q{...F q"+nine+"}}fragment F on Query{q}")
}

func TestQueriesOfLimitedText(t *testing.T) {
	pad := func(text, fill string, n int) string { return text + strings.Repeat(fill, n-len(text)) }
	for _, fill := range []string{" ", ",", "\n", "#"} {
		wantTaken(t, pad("{ints}", fill, api.MaxText))
		wantRefused(t, "syntax", pad("{ints}", fill, api.MaxText+1))
	}
	wantTaken(t, "{"+strings.Repeat("a", api.MaxText-7)+":ints}", "{"+strings.Repeat("ints ", api.MaxTokens-2)+"}", "{"+strings.Repeat("ints ", api.MaxTokens-2)+"}#}")
	wantRefused(t, "syntax", "{"+strings.Repeat("a", api.MaxText-6)+":ints}", "{"+strings.Repeat("on ", api.MaxTokens-1)+"}", strings.Repeat("{", 5000000), strings.Repeat(" ", 5000000))
}

func TestValuesWritten(t *testing.T) {
	s := worldly(t)
	with := func(values string) api.Ask {
		return api.Ask{Viewer: api.Viewer{Role: "user"}, Query: `query($a:Int){ints(first:$a)}`, Values: values, Budget: api.MaxBudget}
	}
	pad := func(text string, n int) string { return text + strings.Repeat(" ", n-len(text)) }
	for _, values := range []string{"", " ", "#x", "\t\r\n,,", "{}", "{ }", " {,} #", `{"b":1}`, `{"":1}`, `{"b":null"c":"x""d":true"e":false}`, `{"a b":-0,"\"\\\n\t":"a"}`, `{"A":1}`, `{"a ":2}`, `{"$a":2}`, `{"a":null}`, strings.Repeat(" ", api.MaxText), pad("{}", api.MaxText), "#" + strings.Repeat("x", api.MaxText-1)} {
		wantServe(t, s, with(values), data(`{"ints":[1,2,3]}`))
	}
	for _, values := range []string{`{"a":1}`, `{ "a" : 1 }`, `{"b":2"a":1}`, `{"a":1,"b":2}`, `,{,"a",:,1,},`, "{\"a\":1#}\n}", `{"A":0"a":1"a ":2}`, pad(`{"a":1}`, api.MaxText)} {
		wantServe(t, s, with(values), data(`{"ints":[1]}`))
	}
	for _, values := range []string{"{", "}", "{{}}", "{}{}", "{}1", "1", "null", "x", "[]", "()", `"a"`, `"a":1`, `{"a"}`, `{"a":}`, `{:1}`, `{"a"=1}`, `{"a" 1}`, `{a:1}`, `{1:1}`, `{$a:1}`, `{"a":$b}`, `{"a":b}`, `{"a":[1]}`, `{"a":{}}`, `{"a":!}`, `{"a":@"a"}`, `{"a":viewer}`, `{"a":01}`, `{"a":1}}`, `{"a":1}{}`, `{"a":1}1`, `{"a":1`, `{"a:1}`, `{"a":1"b"}`, `{"a":1 2}`,
		`{"a":1"a":1}`, `{"a":1"a":2}`, `{"b":1"c":1"b":null}`, `{"":1,"":1}`, `{"\n":1"\n":2}`, "\x00", "{\xff}", ";", "{\"a\":1;}", strings.Repeat(" ", api.MaxText+1), pad("{}", api.MaxText+1), strings.Repeat("{", 5000000)} {
		wantServe(t, s, with(values), refused("syntax"))
	}
	pairs := func(n int) string { // of three tokens each
		var b strings.Builder
		for i := range n {
			b.WriteString(`"b` + strconv.Itoa(i) + `":1`)
		}
		return "{" + b.String() + "}"
	}
	wantServe(t, s, with(pairs((api.MaxTokens-2)/3)), data(`{"ints":[1,2,3]}`))
	wantServe(t, s, with(pairs((api.MaxTokens-2)/3)+"#1"), data(`{"ints":[1,2,3]}`))
	wantServe(t, s, with(pairs((api.MaxTokens-2)/3+1)), refused("syntax"))
}

func TestRoleOfNone(t *testing.T) {
	s := worldly(t)
	for _, role := range []string{"", " ", "nobody", "User", "user ", "N", "Query", "Int", "\xff", strings.Repeat("user", 1000000)} {
		wantServe(t, s, ask(role, "{ints}"), refused("role"))
	}
	for _, role := range []string{"user", "boss", "aide"} {
		wantServe(t, s, ask(role, "{ints}"), data(`{"ints":[1,2,3]}`))
	}
	wantServe(t, serverOf(t, "type Query { a: Int }"), ask("", "{a}"), refused("role"))
}

func TestOperations(t *testing.T) {
	wantRefused(t, "operation", "fragment F on P{id}", "fragment F on Query{ints}fragment G on Query{ints}", "{ints}{ints}", "{ints}query{ints}", "query A{ints}query A{ints}", "query A{ints}query B{ints}", "{ints}fragment F on Query{ints}{flag}", strings.Repeat("{ints}", 200))
}

func TestFragments(t *testing.T) {
	wantRefused(t, "fragment", "{ints}fragment F on P{id}fragment F on P{id}", "{...F}fragment F on Query{ints}fragment F on P{id}", "{ints}fragment F on P{id}fragment G on P{id}fragment F on Q{id}",
		"{ints}fragment F on P{...F}", "{...F}fragment F on Query{...F}", "{ints}fragment F on P{id pal{...F}}", "{ints}fragment F on P{...{...on P{...F@skip(if:true)}}}", "{ints}fragment F on Nothing{...F}",
		"{ints}fragment F on P{...G}fragment G on P{...F}", "{...F}fragment F on Query{...G}fragment G on Query{...H}fragment H on Query{q{...F}}", "{...A}fragment A on Query{...B}fragment B on Query{...C}fragment C on Query{q{...B}}", "{ints}fragment A on P{...C ...B}fragment B on P{...C ...A}fragment C on P{id}",
		"{ints}fragment A on Query{ints}fragment B on Query{...A...A...B}", "{ints}fragment F on P{...G ...F}")
	wantTaken(t, "{...F...F}fragment F on Query{ints}", "{...A}fragment A on Query{...B...C}fragment B on Query{...D}fragment C on Query{...D...B}fragment D on Query{ints}", "{ints}fragment F on P{...G}", "{ints}fragment F on P{F}", "{ints}fragment F on P{...on F{F:G}}fragment G on P{F}", "{ints}fragment F on Nothing{nothing(a:$b){...G@skip(if:$c)}}",
		"{...f}fragment f on Query{...F}fragment F on Query{ints}", "{q{...F}...G}fragment F on Query{ints}fragment G on Query{q{...F}}")
}

func TestVariables(t *testing.T) {
	wantRefused(t, "variable", "query($a:Int$a:Int){ints}", "query($a:Int$b:Int$a:ID){ints}", "query($a:P){ints}", "query($a:N){ints}", "query($a:U){ints}", "query($a:Query){ints}", "query($a:Nothing){ints}", "query($a:int){ints}", "query($a:user){ints}", "query($a:P=null){ints}", "query($b:Int$a:P!){ints}",
		"query($a:Int!){ints}", "query($a:ID!){ints}", "query($a:Int!=null){ints}", "query($a:Boolean!=null){ints}", "query($b:Int=1$a:Int!){ints}")
	values := map[string]string{"null": "null", "number": "-7", "string": `"a"`, "yes": "true", "no": "false"}
	s := worldly(t)
	for scalar, fit := range map[string]string{"Int": "number", "String": "string", "ID": "string", "Boolean": "yes no"} {
		for kind, value := range values {
			for _, strict := range []string{"", "!"} {
				want := refused("variable")
				if strings.Contains(fit, kind) || kind == "null" && strict == "" {
					want = data(`{"flag":true}`)
				}
				wantServe(t, s, ask("user", "query($a:"+scalar+strict+"="+value+"){flag}"), want)
				for _, given := range []string{"", "=" + values[strings.Fields(fit)[0]]} {
					a := ask("user", "query($a:"+scalar+strict+given+"){flag}")
					a.Values = `{"b":1"a":` + value + `"c":"x"}`
					wantServe(t, s, a, want)
				}
			}
		}
	}
}

// A default that does not fit is wrong though a value is given that does.
func TestVariablesWithValues(t *testing.T) {
	s := worldly(t)
	for _, c := range []struct{ query, values, want string }{
		{`query($a:Int="x"){flag}`, `{"a":1}`, refused("variable")}, {`query($a:Int!=null){flag}`, `{"a":1}`, refused("variable")}, {`query($a:Int!){flag}`, `{"b":1}`, refused("variable")}, {`query($a:Int!){flag}`, `{"A":1}`, refused("variable")},
		{`query($a:Int!=2){ints(first:$a)}`, `{"a":null}`, refused("variable")}, {`query($a:Int=2){ints(first:$a)}`, `{"a":null}`, data(`{"ints":[1,2,3]}`)}, {`query($a:Int=2){ints(first:$a)}`, `{"a":1}`, data(`{"ints":[1]}`)}, {`query($a:Int=2){ints(first:$a)}`, `{"b":1}`, data(`{"ints":[1,2]}`)}, {`query($a:Int){ints(first:$a)}`, `{}`, data(`{"ints":[1,2,3]}`)},
		{`query($a:Int!){ints(first:$a)}`, `{"a":0}`, data(`{"ints":[]}`)}, {`query($a:Int$b:Int=1){a:ints(first:$a)b:ints(first:$b)}`, `{"a":2"b":3}`, data(`{"a":[1,2],"b":[1,2,3]}`)}, {`query($a:Boolean){flag}`, `{"a":"true"}`, refused("variable")}, {`query($a:ID){flag}`, `{"a":1}`, refused("variable")},
		{`query($a:String="a"){p(id:$a){id}}`, ``, data(`{"p":{"id":"a"}}`)}, {`query($a:String){p(id:$a){id}}`, `{"a":"b"}`, data(`{"p":{"id":"b"}}`)}, {`query($a:ID="P"){__fields(type:$a)}`, `{"a":"Lone"}`, data(`{"__fields":["x"]}`)},
		{`query($y:Boolean=true$n:Boolean!){a:flag@skip(if:$y)b:flag@skip(if:$n)c:flag@include(if:$y)d:flag@include(if:$n)}`, `{"n":false}`, data(`{"b":true,"c":true}`)}, {`query($y:Boolean!){...F@skip(if:$y)...@include(if:$y){a:flag}}fragment F on Query{ints}`, `{"y":true}`, data(`{"a":true}`)},
		{`query($i:Int=1){...F}fragment F on Query{ints(first:$i)}`, `{"i":2}`, data(`{"ints":[1,2]}`)}, {`query($a:Int=1){ints(first:1)ints(first:$a)}`, ``, data(`{"ints":[1]}`)}, {`query($a:Int=1){ints(first:1)ints(first:$a)}`, `{"a":2}`, refused("selection")}, {`query($a:Int=1$b:Int=1){ints(first:$b)ints(first:$a)}`, ``, data(`{"ints":[1]}`)}, {`query($a:Int){ints ints(first:$a)}`, ``, refused("selection")},
	} {
		a := ask("user", c.query)
		a.Values = c.values
		wantServe(t, s, a, c.want)
	}
}

// Everything is wrong with the first ask; what is told first is mended from one to the next.
func TestFirstThingWrongIsTold(t *testing.T) {
	s := worldly(t)
	viewer, nobody := api.Viewer{Role: "user"}, api.Viewer{Role: "nobody"}
	for _, c := range []struct {
		message string
		a       api.Ask
	}{
		{"syntax", api.Ask{Viewer: nobody, Query: "query($a:P){nothing}{ints}fragment F on P{...F}}", Values: "{", Budget: -1}}, {"syntax", api.Ask{Viewer: nobody, Query: "query($a:P){nothing}{ints}fragment F on P{...F}}", Budget: -1}}, {"syntax", api.Ask{Viewer: nobody, Query: "query($a:P){nothing}{ints}fragment F on P{...F}", Values: "{", Budget: -1}}, {"syntax", api.Ask{Viewer: nobody, Query: "query($a:P){nothing}{ints}fragment F on P{...F}", Values: `{"a":1"a":1}`, Budget: -1}},
		{"role", api.Ask{Viewer: nobody, Query: "query($a:P){nothing}{ints}fragment F on P{...F}", Values: `{"a":1}`, Budget: -1}}, {"role", api.Ask{Viewer: nobody, Query: "{nothing}", Budget: 5001}}, {"role", api.Ask{Query: "fragment F on P{...F}"}},
		{"operation", api.Ask{Viewer: viewer, Query: "query($a:P){nothing}{ints}fragment F on P{...F}", Values: `{"a":1}`, Budget: -1}}, {"operation", api.Ask{Viewer: viewer, Query: "fragment F on P{...F}", Budget: 5001}},
		{"fragment", api.Ask{Viewer: viewer, Query: "query($a:P){nothing}fragment F on P{...F}", Values: `{"a":1}`, Budget: -1}}, {"fragment", api.Ask{Viewer: viewer, Query: "query($a:Int){ints}fragment F on P{id}fragment F on P{id}", Values: `{"a":"x"}`}},
		{"variable", api.Ask{Viewer: viewer, Query: "query($a:P){nothing}fragment F on P{id}", Values: `{"a":1}`, Budget: -1}}, {"variable", api.Ask{Viewer: viewer, Query: "query($a:Int){nothing}", Values: `{"a":"x"}`, Budget: 5001}},
		{"selection", api.Ask{Viewer: viewer, Query: "query($a:Int){nothing}fragment F on P{id}", Values: `{"a":1}`, Budget: -1}}, {"selection", api.Ask{Viewer: viewer, Query: "{ints ints:flag}"}}, {"selection", api.Ask{Viewer: viewer, Query: "{ints nothing}", Budget: 1}},
		{"budget", api.Ask{Viewer: viewer, Query: "query($a:Int){ints}fragment F on P{id}", Values: `{"a":1}`, Budget: -1}}, {"budget", api.Ask{Viewer: viewer, Query: "{must}"}}, {"budget", api.Ask{Viewer: viewer, Query: "{shut}"}},
	} {
		wantServe(t, s, c.a, refused(c.message))
	}
}

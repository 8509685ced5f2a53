package veil

import (
	"strings"
	"testing"

	"veil/api"
)

// asUser: what a query is answered to a user, of a store under a schema.
func asUser(t *testing.T, schema string, have []api.Row, wants map[string]string) {
	t.Helper()
	s := serverOf(t, schema, have...)
	for query, want := range wants {
		wantServe(t, s, ask("user", query), want)
	}
}

func TestServeExamples(t *testing.T) {
	s := serverOf(t, example, people()...)
	for _, c := range [][3]string{
		{"user", `{team{name}}`, data(`{"team":[{"name":"Ann"},null,null]}`, `"team",1`, `"team",2`)}, {"boss", `{team{name}}`, data(`{"team":[{"name":"Ann"},{"name":"Bo"},null]}`, `"team",2`)},
		{"user", `{me(id:"a"){n:name pay}}`, data(`{"me":{"n":"Ann","pay":null}}`, `"me","pay"`)}, {"user", `{me(id:"b"){name}}`, data(`{"me":null}`, `"me"`)}, {"user", `{me(id:"q"){name}}`, data(`{"me":null}`, `"me"`)},
		{"user", `{me(id:"a"){note}}`, refused("selection")}, {"user", `{me(id:"a"){nope}}`, refused("selection")}, {"boss", `{me(id:"a"){note}}`, data(`{"me":{"note":null}}`)},
		{"user", `{__fields(type:"Person")}`, data(`{"__fields":["name","open","pay","friend"]}`)}, {"user", `query($x:ID!="a"){me(id:$x){...on Named{name}...F}}fragment F on Person{name open@skip(if:true)}`, data(`{"me":{"name":"Ann"}}`)},
	} {
		wantServe(t, s, ask(c[0], c[1]), c[2])
	}
}

func TestScalarsAreMade(t *testing.T) {
	asUser(t, "role user type Query { i: Int j: Int k: Int s: String d: ID e: String y: Boolean n: Boolean none: Int nul: ID }",
		rows(row("Query", "", "i", "-0", "j", "999999999", "k", " -999999999 #", "s", `" ~!#,'/<"`, "d", `"\"\\\n\t\\n"`, "e", `""`, "y", "true", "n", "false", "nul", "null")),
		map[string]string{
			"{i j k}": data(`{"i":0,"j":999999999,"k":-999999999}`), "{s d e}": data(`{"s":" ~!#,'/<","d":"\"\\\n\t\\n","e":""}`), "{y n}": data(`{"y":true,"n":false}`), "{none nul}": data(`{"none":null,"nul":null}`),
			"{i:j j:i}": data(`{"i":999999999,"j":0}`), "{zz:i a:i i}": data(`{"zz":0,"a":0,"i":0}`),
		})
}

// No blank stands in an answer but inside of strings; what an answer tells does not hang on how the query is written.
func TestAnswersAreWrittenShort(t *testing.T) {
	s := serverOf(t, example, people()...)
	want := data(`{"me":{"name":"Ann","pay":null,"friend":null},"team":[{"open":true},null,null]}`, `"me","pay"`, `"me","friend"`, `"team",1`, `"team",2`)
	for _, q := range []string{`{me(id:"a"){name pay friend{name}}team{open}}`, "query Q {\n\tme ( id : \"a\" ) {\r\n name , pay , friend { name } } # x }\n team { open } }"} {
		wantServe(t, s, ask("user", q), want)
	}
}

func TestKeysAndOrder(t *testing.T) {
	asUser(t, "role user type Query { p: P q: P a: Int b: Int } type P { a: Int b: Int p: P }",
		rows(row("Query", "", "p", `@"x"`, "q", `@"x"`, "b", "2", "a", "1"), row("P", "x", "p", `@"x"`, "a", "3", "b", "4")),
		map[string]string{
			"{b a}": data(`{"b":2,"a":1}`), "{a b a}": data(`{"a":1,"b":2}`), "{x:b a x:b}": data(`{"x":2,"a":1}`), "{...{b}a...{b}}": data(`{"b":2,"a":1}`), "{...F a}fragment F on Query{b}": data(`{"b":2,"a":1}`), "{a...F}fragment F on Query{b a}": data(`{"a":1,"b":2}`),
			"{p{a}b p{b}}": data(`{"p":{"a":3,"b":4},"b":2}`), "{p{b}p{a}p{b a}}": data(`{"p":{"b":4,"a":3}}`), "{p{p{b}a}p{p{a}}}": data(`{"p":{"p":{"b":4,"a":3},"a":3}}`), "{p{a}q{b}k:p{a b}}": data(`{"p":{"a":3},"q":{"b":4},"k":{"a":3,"b":4}}`), "{...F p{b}...F}fragment F on Query{p{a}...G}fragment G on Query{p{p{b}}}": data(`{"p":{"a":3,"p":{"b":4},"b":4}}`),
			"{a@skip(if:true)b a}": data(`{"b":2,"a":1}`), "{p@skip(if:true){a}b p{b}}": data(`{"b":2,"p":{"b":4}}`), "{p{a}p@skip(if:true){b}}": data(`{"p":{"a":3}}`), "{p{...F}}fragment F on P{b...G}fragment G on P{a}": data(`{"p":{"b":4,"a":3}}`), "{...F@skip(if:true)b...F}fragment F on Query{a}": data(`{"b":2,"a":1}`),
			"{...F...G}fragment F on Query{p{a}}fragment G on Query{p{b}a}": data(`{"p":{"a":3,"b":4},"a":1}`), "{p{a@include(if:false)b}p{a}}": data(`{"p":{"b":4,"a":3}}`),
		})
}

func TestConditionsLeaveOut(t *testing.T) {
	for conditions, stays := range map[string]bool{
		"": true, "@skip(if:true)": false, "@skip(if:false)": true, "@include(if:true)": true, "@include(if:false)": false, "@skip(if:false)@include(if:true)": true, "@skip(if:true)@include(if:true)": false, "@skip(if:false)@include(if:false)": false, "@include(if:false)@skip(if:false)": false,
		"@skip(if:false)@skip(if:true)": false, "@include(if:true)@include(if:false)": false, "@skip(if:false)@skip(if:false)@include(if:true)@include(if:true)": true,
	} {
		want := data(`{"b":2}`)
		if stays {
			want = data(`{"a":1,"b":2}`)
		}
		asUser(t, "role user type Query { a: Int b: Int }", rows(row("Query", "", "a", "1", "b", "2")), map[string]string{
			"{a" + conditions + " b}": want, "{..." + conditions + "{a}b}": want, "{...on Query" + conditions + "{a}b}": want, "{...F" + conditions + " b}fragment F on Query{a}": want, "{...F b}fragment F on Query{...{a" + conditions + "}}": want,
		})
	}
	asUser(t, "role user type Query { a: Int q: Int! p: P! } type P { a: Int! }", rows(row("Query", "", "p", `@"x"`), row("P", "x")), map[string]string{
		"{a@skip(if:true)}": data("{}"), "{q@skip(if:true)}": data("{}"), "{p{a@skip(if:true)}}": data(`{"p":{}}`), "{...@skip(if:true){q}}": data("{}"),
	})
}

func TestPartsOfTypes(t *testing.T) {
	const schema = `role user interface N { id: ID } interface M { k: Int } union U = P | Q union V = Q
type Query { us: [U] ns: [N] p: P } type P implements N M { id: ID k: Int a: Int } type Q implements N { id: ID b: Int } type R implements M { k: Int }`
	asUser(t, schema, rows(row("P", "p", "id", `"p"`, "a", "1", "k", "2"), row("Q", "q", "id", `"q"`, "b", "3"), row("Query", "", "us", `[@"p" @"q"]`, "ns", `[@"q" @"p"]`, "p", `@"p"`)), map[string]string{
		"{us{__typename}ns{__typename}p{__typename}__typename}": data(`{"us":[{"__typename":"P"},{"__typename":"Q"}],"ns":[{"__typename":"Q"},{"__typename":"P"}],"p":{"__typename":"P"},"__typename":"Query"}`),
		"{us{...on P{a}...on Q{b}}}":                            data(`{"us":[{"a":1},{"b":3}]}`), "{us{...on Q{b}...on P{a}...on N{id}}}": data(`{"us":[{"a":1,"id":"p"},{"b":3,"id":"q"}]}`), "{us{...on V{...on Q{b}}...on M{k}}}": data(`{"us":[{"k":2},{"b":3}]}`),
		"{ns{id...on M{k}...on U{...on Q{b}}}}": data(`{"ns":[{"id":"q","b":3},{"id":"p","k":2}]}`), "{ns{...on P{...on N{...on U{t:__typename}}}}}": data(`{"ns":[{},{"t":"P"}]}`), "{us{...F...G}}fragment F on P{x:a}fragment G on Q{x:b...H}fragment H on V{__typename}": refused("selection"),
		"{us{...F...G}}fragment F on P{x:a}fragment G on Q{y:b...H}fragment H on V{__typename}": data(`{"us":[{"x":1},{"y":3,"__typename":"Q"}]}`), "{p{...on N{id}...on M{k}...on U{t:__typename}...{a}}}": data(`{"p":{"id":"p","k":2,"t":"P","a":1}}`), "{us{...on P{__typename@skip(if:true)}}}": data(`{"us":[{},{}]}`),
		"{us{...on M{...on P{a}}}}": data(`{"us":[{"a":1},{}]}`), "{us{...on P{id}...on Q{id}}}": data(`{"us":[{"id":"p"},{"id":"q"}]}`),
	})
	// one key, of one name, whose types are not the same
	const differing = "role user union U = P | Q type Query { us: [U] } type P { k: Int } type Q { k: Q l: Int }"
	asUser(t, differing, rows(row("P", "p", "k", "1"), row("Q", "q", "k", `@"q"`, "l", "2"), row("Query", "", "us", `[@"p" @"q"]`)), map[string]string{
		"{us{...on P{k}...on Q{k{l}}}}": data(`{"us":[{"k":1},{"k":{"l":2}}]}`),
	})
}

func TestTypesAndFieldsAreTold(t *testing.T) {
	const schema = `union U = A role user role boss: user type B @rows(not all) { z: Int y: Int } interface N { n: Int h: Int @hide(boss) c: Int @auth(boss) }
type Query { q: Int @hide(boss) b: Int } type A implements N { c: Int @auth(boss) h: Int @hide(boss) n: Int o: Int @hide(boss) @auth(boss) } interface Dark { h: Int @hide(boss) } type a { id: ID }`
	s := serverOf(t, schema)
	types := `["U","B","N","Query","A","Dark","a"]`
	for _, role := range []string{"user", "boss"} {
		wantServe(t, s, ask(role, "{__types a:__types __typename}"), data(`{"__types":`+types+`,"a":`+types+`,"__typename":"Query"}`))
		for _, none := range []string{"U", "Int", "String", "ID", "Boolean", "", "n", "b", "user", "__types", "A ", "\\n", "nothing"} {
			wantServe(t, s, ask(role, `{__fields(type:"`+none+`")}`), data(`{"__fields":null}`))
		}
	}
	for typ, want := range map[string][2]string{"B": {`["z","y"]`, `["z","y"]`}, "N": {`["n","c"]`, `["n","h","c"]`}, "Query": {`["b"]`, `["q","b"]`}, "A": {`["c","n"]`, `["c","h","n","o"]`}, "Dark": {"[]", `["h"]`}, "a": {`["id"]`, `["id"]`}} {
		wantServe(t, s, ask("user", `{k:__fields(type:"`+typ+`")}`), data(`{"k":`+want[0]+`}`))
		wantServe(t, s, ask("boss", `{k:__fields(type:"`+typ+`")}`), data(`{"k":`+want[1]+`}`))
	}
	wantServe(t, s, ask("user", `{a:__fields(type:"a")b:__fields(type:"B")a:__fields(type:"a")...F}fragment F on Query{__types}`), data(`{"a":["id"],"b":["z","y"],"__types":`+types+`}`))
}

func TestFieldsThatAreClosed(t *testing.T) {
	const schema = `role user role boss: user type Query { i: Int @auth(boss) l(first: Int): [Int!]! @auth(boss) p: P @auth(boss) by(id: ID): P @auth(boss) open: P must(id: ID): P! @auth(boss) h: Int @hide(user) @auth(boss) } type P { i: Int! @auth(boss) j: Int }`
	have := rows(row("Query", "", "i", "1", "l", "[1 2]", "p", `@"p"`, "open", `@"p"`, "h", "5"), row("P", "p", "i", "2", "j", "3"))
	asUser(t, schema, have, map[string]string{
		"{i}": data(`{"i":null}`, `"i"`), "{a:i b:h i}": data(`{"a":null,"b":null,"i":null}`, `"a"`, `"b"`, `"i"`), "{l}": data("null", `"l"`), "{l(first:0)}": data("null", `"l"`), "{p{j}}": data(`{"p":null}`, `"p"`), `{by(id:"p"){j}}`: data(`{"by":null}`, `"by"`), `{by(id:"z"){i}}`: data(`{"by":null}`, `"by"`),
		"{open{j}}": data(`{"open":{"j":3}}`), "{open{j i}}": data(`{"open":null}`, `"open","i"`), `{must(id:"p"){j}i}`: data("null", `"must"`, `"i"`),
	})
	s := serverOf(t, schema, have...)
	wantServe(t, s, ask("boss", `{i l p{i j}by(id:"p"){i}must(id:"p"){j}h}`), data(`{"i":1,"l":[1,2],"p":{"i":2,"j":3},"by":{"i":2},"must":{"j":3},"h":5}`))
	// a closed field looks the same whatever is in it
	for _, cell := range []string{"null", "!", "7"} {
		asUser(t, schema, rows(row("Query", "", "i", cell)), map[string]string{"{i}": data(`{"i":null}`, `"i"`)})
	}
	asUser(t, schema, nil, map[string]string{"{i}": data(`{"i":null}`, `"i"`)})
}

func TestRowsThatAreHidden(t *testing.T) {
	const schema = `role user role boss: user interface N { id: ID } union U = P | O type Query { p(id: ID): P n(id: ID): N u(id: ID): U! one: P n1: N ps: [P] strict: [P!] }
type P implements N @rows(is boss or owner = viewer) { id: ID owner: ID pal: P! } type O implements N { id: ID p: P ps: [P]! }`
	have := rows(row("Query", "", "one", `@"h"`, "n1", `@"h"`, "ps", `[@"s" @"h" @"z" @"s"]`, "strict", `[@"s" @"h"]`), row("P", "s", "id", `"s"`, "owner", `"me"`, "pal", `@"h"`), row("P", "h", "id", `"h"`, "owner", `"you"`, "pal", `@"s"`), row("O", "o", "id", `"o"`, "p", `@"h"`, "ps", `[@"h" @"s"]`))
	s := serverOf(t, schema, have...)
	for query, want := range map[string]string{
		"{one{id}}": data(`{"one":null}`, `"one"`), "{n1{id}}": data(`{"n1":null}`, `"n1"`), "{ps{id}}": data(`{"ps":[{"id":"s"},null,null,{"id":"s"}]}`, `"ps",1`, `"ps",2`), "{strict{id}}": data(`{"strict":null}`, `"strict",1`), `{p(id:"h"){id}}`: data(`{"p":null}`, `"p"`), `{p(id:"s"){id pal{id}}}`: data(`{"p":null}`, `"p","pal"`),
		`{n(id:"h"){id}}`: data(`{"n":null}`, `"n"`), `{n(id:"o"){id...on O{p{id}ps{id}}}}`: data(`{"n":{"id":"o","p":null,"ps":[null,{"id":"s"}]}}`, `"n","p"`, `"n","ps",0`), `{u(id:"h"){__typename}}`: data("null", `"u"`), `{p(id:"s"){id owner}}`: data(`{"p":{"id":"s","owner":"me"}}`),
	} {
		a := ask("user", query)
		a.Viewer.ID = "me"
		wantServe(t, s, a, want)
	}
	boss := ask("boss", `{one{id}ps{id}strict{pal{id}}p(id:"s"){pal{pal{id}}}u(id:"h"){...on N{id}}}`)
	wantServe(t, s, boss, data(`{"one":{"id":"h"},"ps":[{"id":"s"},{"id":"h"},null,{"id":"s"}],"strict":[{"pal":{"id":"h"}},{"pal":{"id":"s"}}],"p":{"pal":{"pal":{"id":"s"}}},"u":{"id":"h"}}`, `"ps",2`))
}

func TestRowsByID(t *testing.T) {
	const schema = "role user interface N { a: Int } union U = P | Query type Query implements N { a: Int p(id: ID): P n(id: ID): N u(id: ID): U q(id: ID): Query r(id: ID): R! } type P implements N { a: Int n(id: ID): N p(id: ID): P! } type R { a: Int }"
	asUser(t, schema, rows(row("Query", "", "a", "9"), row("P", "p", "a", "1"), row("R", "r", "a", "2"), row("P", "x\"\\\n\t ~", "a", "3"), row("P", "P", "a", "4")), map[string]string{
		`{p(id:"p"){a}}`: data(`{"p":{"a":1}}`), `{n(id:"p"){a}u(id:"p"){...on P{a}}}`: data(`{"n":{"a":1},"u":{"a":1}}`), `{p(id:"r"){a}}`: data(`{"p":null}`, `"p"`), `{n(id:"r"){a}}`: data(`{"n":null}`, `"n"`), `{u(id:"r"){__typename}}`: data(`{"u":null}`, `"u"`), `{r(id:"r"){a}}`: data(`{"r":{"a":2}}`), `{r(id:"p"){a}}`: data("null", `"r"`),
		`{p(id:""){a}}`: data(`{"p":null}`, `"p"`), `{n(id:""){a}}`: data(`{"n":null}`, `"n"`), `{u(id:""){__typename}}`: data(`{"u":null}`, `"u"`), `{q(id:""){a}}`: data(`{"q":null}`, `"q"`), `{q(id:"p"){a}}`: data(`{"q":null}`, `"q"`), `{q(id:"Query"){a}}`: data(`{"q":null}`, `"q"`),
		`{p(id:"x\"\\\n\t ~"){a}}`: data(`{"p":{"a":3}}`), `{p(id:"P"){a}a:p(id:"p "){a}}`: data(`{"p":{"a":4},"a":null}`, `"a"`), `{p(id:"p"){n(id:"P"){a}p(id:"p"){p(id:"P"){a}}}}`: data(`{"p":{"n":{"a":4},"p":{"p":{"a":4}}}}`), `{p(id:"p"){n(id:"z"){a}p(id:"r"){a}a}}`: data(`{"p":null}`, `"p","n"`, `"p","p"`),
	})
	asUser(t, schema, nil, map[string]string{`{n(id:""){a}a}`: data(`{"n":null,"a":null}`, `"n"`)})
}

func TestFaults(t *testing.T) {
	asUser(t, "role user type Query { i: Int s: String! p: P l: [Int] m: [Int!] ll: [[Int!]!]! g: [[Int]] q: P! r: P } type P { a: Int b: Int! c: [P!] }",
		rows(row("Query", "", "i", "!", "s", "!", "p", "!", "l", "[1 ! 2 !]", "m", "[1 ! 2 !]", "ll", "[[1] ! [2 !] [!]]", "g", "[! [1 !] null]", "q", `@"x"`, "r", `@"y"`), row("P", "x", "a", "!", "b", "1", "c", "!"), row("P", "y", "b", "!", "c", `[@"x" !]`)), map[string]string{
			"{i}": data(`{"i":null}`, `"i"`), "{s}": data("null", `"s"`), "{p{a}}": data(`{"p":null}`, `"p"`), "{l}": data(`{"l":[1,null,2,null]}`, `"l",1`, `"l",3`), "{m}": data(`{"m":null}`, `"m",1`, `"m",3`), "{ll}": data("null", `"ll",1`, `"ll",2,1`, `"ll",3,0`), "{g}": data(`{"g":[null,[1,null],null]}`, `"g",0`, `"g",1,1`),
			"{q{a b c{a}}}": data(`{"q":{"a":null,"b":1,"c":null}}`, `"q","a"`, `"q","c"`), "{r{b}}": data(`{"r":null}`, `"r","b"`), "{r{c{a b}}}": data(`{"r":{"c":null}}`, `"r","c",0,"a"`, `"r","c",1`), "{r{a}}": data(`{"r":{"a":null}}`),
		})
}

// Wherever `!` stands, null goes outwards to where there is none.
func TestStrictTypes(t *testing.T) {
	const schema = `role user type Query { a: Int! b: Int l: [Int!] m: [Int]! n: [Int!]! p: P q: P! ps: [P] pt: [P!] pu: [P!]! g: [[Int!]!]! h: [[Int!]] k: [[Int]!] } type P { a: Int! b: Int p: P! q: P l: [Int!]! }`
	full := rows(row("Query", "", "b", "1", "l", "[1 null 2]", "n", "[1 null]", "p", `@"x"`, "q", `@"x"`, "ps", `[@"x" @"y" null]`, "pt", `[@"y" @"x" @"y"]`, "pu", `[@"y" null]`, "g", "[[1] [null 2] null]", "h", "[[1] [null] null]", "k", "[[null] null]"),
		row("P", "x", "b", "1", "q", `@"x"`, "l", "[1]"), row("P", "y", "a", "1", "p", `@"x"`, "q", `@"y"`, "l", "[null]"))
	asUser(t, schema, full, map[string]string{
		"{a}": data("null", `"a"`), "{b a c:b}": data("null", `"a"`), "{l}": data(`{"l":null}`, `"l",1`), "{m}": data("null", `"m"`), "{n}": data("null", `"n",1`), "{p{a}}": data(`{"p":null}`, `"p","a"`), "{q{b}}": data(`{"q":{"b":1}}`), "{q{a b}}": data("null", `"q","a"`), "{b p{b p{b}}}": data(`{"b":1,"p":null}`, `"p","p"`), "{q{q{q{a}}}}": data(`{"q":{"q":{"q":null}}}`, `"q","q","q","a"`),
		"{ps{a}}": data(`{"ps":[null,{"a":1},null]}`, `"ps",0,"a"`), "{ps{b}}": data(`{"ps":[{"b":1},{"b":null},null]}`), "{pt{a}}": data(`{"pt":null}`, `"pt",1,"a"`), "{pt{b}}": data(`{"pt":[{"b":null},{"b":1},{"b":null}]}`), "{pu{b}}": data("null", `"pu",1`), "{ps{p{a}}}": data(`{"ps":[null,null,null]}`, `"ps",0,"p"`, `"ps",1,"p","a"`),
		"{g}": data("null", `"g",1,0`, `"g",2`), "{h}": data(`{"h":[[1],null,null]}`, `"h",1,0`), "{k}": data(`{"k":null}`, `"k",1`), "{ps{l}}": data(`{"ps":[{"l":[1]},null,null]}`, `"ps",1,"l",0`), "{p{q{q{a b}b}b}b}": data(`{"p":{"q":{"q":null,"b":1},"b":1},"b":1}`, `"p","q","q","a"`),
	})
	asUser(t, schema, nil, map[string]string{"{a}": data("null", `"a"`), "{m n l g b}": data("null", `"m"`, `"n"`, `"g"`), "{q{a}p{a}}": data("null", `"q"`), "{l p{a}ps{a}b}": data(`{"l":null,"p":null,"ps":null,"b":null}`)})
}

// What comes behind in the same object or list is made all the same; what fails inside is told ahead of what is around it.
func TestOrderOfErrors(t *testing.T) {
	const schema = `role user role boss type Query { a: Int! b: Int! @auth(boss) c: [[Int!]!] p: P! z: [P!]! i: Int } type P { a: Int! b: Int @auth(boss) c: Int! d: P! l: [Int] }`
	asUser(t, schema, rows(row("Query", "", "c", "[[null 1 null] null [!]]", "p", `@"x"`, "z", `[@"x" @"none" null @"y" !]`, "i", "!"), row("P", "x", "d", `@"y"`, "l", "[! null !]"), row("P", "y", "a", "1", "c", "!", "l", "[1]")), map[string]string{
		"{b a}": data("null", `"b"`, `"a"`), "{a b i}": data("null", `"a"`, `"b"`, `"i"`), "{i b i2:i a}": data("null", `"i"`, `"b"`, `"i2"`, `"a"`), "{c a}": data("null", `"c",0,0`, `"c",0,2`, `"c",1`, `"c",2,0`, `"a"`), "{p{c b a}i}": data("null", `"p","c"`, `"p","b"`, `"p","a"`, `"i"`), "{p{a d{b a c}l}a}": data("null", `"p","a"`, `"p","d","b"`, `"p","d","c"`, `"p","l",0`, `"p","l",2`, `"a"`),
		"{z{a l}i}": data("null", `"z",0,"a"`, `"z",0,"l",0`, `"z",0,"l",2`, `"z",1`, `"z",2`, `"z",4`, `"i"`), "{k:p{kk:d{kkk:c}}}": data("null", `"k","kk","kkk"`), "{p{d{d{a}l}b}}": data("null", `"p","d","d"`, `"p","b"`),
	})
}

func TestListsInListsWithFirst(t *testing.T) {
	const schema = `role user type Query { l(first: Int): [Int] n(first: Int): [Int!]! ll(first: Int): [[Int]] lll(first: Int): [[[Int!]]!] ps(first: Int): [P!] f(first: Int): [Int] nul(first: Int): [Int] none(first: Int): [Int!]! } type P { l(first: Int): [Int!]! i: Int }`
	asUser(t, schema, rows(row("Query", "", "l", "[1 2 3]", "n", "[1 null]", "ll", "[[1 2] [] null [3 4 5]]", "lll", "[[[1 2] null []] [] [[3] [null]] null]", "ps", `[@"a" @"b" @"none"]`, "f", "[1 !]", "nul", "null"), row("P", "a", "i", "1", "l", "[7 8 null]"), row("P", "b", "i", "2", "l", "!")), map[string]string{
		"{l}": data(`{"l":[1,2,3]}`), "{l(first:null)}": data(`{"l":[1,2,3]}`), "{a:l(first:0)b:l(first:1)c:l(first:2)d:l(first:3)e:l(first:4)f:l(first:999999999)g:l(first:-1)h:l(first:-999999999)}": data(`{"a":[],"b":[1],"c":[1,2],"d":[1,2,3],"e":[1,2,3],"f":[1,2,3],"g":[],"h":[]}`),
		"{ll}": data(`{"ll":[[1,2],[],null,[3,4,5]]}`), "{ll(first:1)}": data(`{"ll":[[1,2]]}`), "{ll(first:3)}": data(`{"ll":[[1,2],[],null]}`), "{lll}": data(`{"lll":null}`, `"lll",2,1,0`, `"lll",3`), "{lll(first:3)}": data(`{"lll":[[[1,2],null,[]],[],[[3],null]]}`, `"lll",2,1,0`), "{lll(first:2)}": data(`{"lll":[[[1,2],null,[]],[]]}`),
		"{n(first:1)}": data(`{"n":[1]}`), "{n(first:2)}": data("null", `"n",1`), "{f(first:1)}": data(`{"f":[1]}`), "{f(first:2)}": data(`{"f":[1,null]}`, `"f",1`), "{a:nul(first:1)b:nul(first:0)nul}": data(`{"a":null,"b":null,"nul":null}`), "{none(first:0)}": data("null", `"none"`), "{ps(first:2){i}}": data(`{"ps":[{"i":1},{"i":2}]}`), "{ps(first:3){i}}": data(`{"ps":null}`, `"ps",2`), "{ps(first:1){a:l(first:2)b:l(first:1)}}": data(`{"ps":[{"a":[7,8],"b":[7]}]}`),
		"{ps(first:1){l}}": data(`{"ps":null}`, `"ps",0,"l",2`), "{ps(first:2){l(first:0)}}": data(`{"ps":null}`, `"ps",1,"l"`),
	})
	deep := "type Query { d: " + strings.Repeat("[", 10) + "Int!" + strings.Repeat("]", 10) + " } role user"
	asUser(t, deep, rows(row("Query", "", "d", strings.Repeat("[", 10)+"1 null"+strings.Repeat("]", 10))), map[string]string{"{d}": data(`{"d":`+strings.Repeat("[", 9)+"null"+strings.Repeat("]", 9)+"}", `"d"`+strings.Repeat(",0", 9)+",1")})
}

func TestReferencesToNoRow(t *testing.T) {
	asUser(t, "role user interface N { a: Int } type Query { p: P n: N! l: [P] q: Query } type P implements N { a: Int p: P }", rows(row("Query", "", "p", `@"z"`, "n", `@"z"`, "l", `[@"a" @"z" @" a"]`, "q", `@"z"`), row("P", "a", "a", "1", "p", `@"a"`)), map[string]string{
		"{p{a}}": data(`{"p":null}`, `"p"`), "{n{a}}": data("null", `"n"`), "{l{a}}": data(`{"l":[{"a":1},null,null]}`, `"l",1`, `"l",2`), "{q{p{a}}}": data(`{"q":null}`, `"q"`), "{l{p{p{p{a}}}}}": data(`{"l":[{"p":{"p":{"p":{"a":1}}}},null,null]}`, `"l",1`, `"l",2`),
	})
	asUser(t, "role user type Query { p(id: ID): P } type P { q: Query p: P }", rows(row("P", "a", "q", `@""`, "p", `@""`)), map[string]string{`{p(id:"a"){q{__typename}p{__typename}}}`: data(`{"p":{"q":null,"p":null}}`, `"p","q"`, `"p","p"`)})
}

func TestQueryWithoutARow(t *testing.T) {
	const schema = "role user type Query { a: Int l: [Int!] p(id: ID): P q: Query m: Int! } type P { a: Int }"
	for _, have := range [][]api.Row{rows(row("P", "p", "a", "1")), rows(row("P", "p", "a", "1"), row("Query", ""))} {
		asUser(t, schema, have, map[string]string{
			"{a l q{a}}": data(`{"a":null,"l":null,"q":null}`), `{p(id:"p"){a}__typename}`: data(`{"p":{"a":1},"__typename":"Query"}`), "{a m}": data("null", `"m"`), "{__types}": data(`{"__types":["Query","P"]}`), "{a@skip(if:true)}": data("{}"), `{p(id:""){a}}`: data(`{"p":null}`, `"p"`),
		})
	}
}

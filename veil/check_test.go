package veil

import (
	"strconv"
	"strings"
	"sync"
	"testing"

	"veil/api"
)

const example = `role user role boss : user type Query { me(id: ID): Person team: [Person] } interface Named { name: String! } type Person implements Named @rows(open = true or is boss) { name: String! open: Boolean pay: Int @auth(boss) note: String @hide(boss) friend: Named }`

// with is a right schema with something behind it.
func with(more string) string { return "role user role boss: user type Query { a: Int } " + more }

// ruled is a right schema but for this rule.
func ruled(rule string) string {
	return with("type P @rows(" + rule + ") { a: Int b: ID! c: Boolean or: Int and: Int rows: Int l: [Int] o: P m: Int @auth(user) h: Int @hide(user) }")
}

func wantCheck(t *testing.T, want api.Errno, schemas ...string) {
	t.Helper()
	for _, s := range schemas {
		if e := Check(s); e != want {
			t.Errorf("Check(%.300q) = %d, want %d", s, e, want)
		}
	}
}

func TestCheckRight(t *testing.T) {
	wantCheck(t, api.OK, example, with(""),
		"type Query { a: Int }", "type Query{a:Int}", ",type,Query,{,a,:,Int,},", "#\ntype Query { # a }\n a: Int }#", "type\tQuery\r\n{ a : Int ! }",
		"type Query { a: Query }", "type Query { _: Int _a: Int a__: Int A: Int }",
		"type Query { a: Int b: String! c: Boolean d: ID! e: [Int] f: [Int!] g: [Int]! h: [[[Query!]!]!]! }",
		"type Query { self(id: ID): Query other(id: ID): Query! list(first: Int): [Query] more(first: Int): [[Int!]]! }")
}

func TestCheckRightRoles(t *testing.T) {
	wantCheck(t, api.OK, with("role r: boss user"), with("role r: user user"), with("role r: s t role s: t role t"), with("role r: later role later"),
		with("role Int role Query role ID: Int"), with("role on: user role if: on query role query"),
		with("role role role type role interface role union"), with("role type type P { a: Int @auth(type) }"))
}

func TestCheckRightTypes(t *testing.T) {
	wantCheck(t, api.OK, with("union U = P type P { a: Int }"), with("union U = P | Query type P { a: U b: [U!] c(id: ID): U! }"),
		with("union U = Query union V = Query type P { u: U v: V }"), with("type user { a: user }"),
		with("interface N { a: N b(id: ID): N }"), with("interface N { a: Int } type P { n(id: ID): N }"),
		with("type P implements N { b: Int a: Int } interface N { a: Int b: Int }"), with("type P implements N M { a: Int b: Int } interface N { a: Int } interface M { a: Int b: Int }"),
		with("interface N { a(first: Int): [Int]! @hide(user) @auth(boss) } type P implements N { a(first: Int): [Int]! @auth(boss) @hide(user) }"),
		"interface N { a: Int } type Query implements N { a: Int }",
		with("type P { a: Int @auth(user) b: Int @hide(user) c: [P] @auth(boss) @hide(user) d(id: ID): P @hide(boss) @auth(boss) }"))
}

func TestCheckRightRules(t *testing.T) {
	for _, rule := range []string{
		"all", "is user", "is user or is boss", "not all", "not not not all", "(all)", "((all))", "not (all)", "(all or all) and all",
		"a = 1", "a = -0", `a = "x"`, `b = "\"\\\n\t"`, "c = true", "c = false", "a = null", "b = viewer", "a = 999999999", "a = -999999999",
		"or = 1", "and = 1", "or = 1 or or = 2 and and = 3", "rows = 1 and all", "not a = 1 and b = viewer or c = true",
	} {
		wantCheck(t, api.OK, ruled(rule))
	}
}

func TestCheckWordsAsNames(t *testing.T) {
	for _, w := range strings.Fields("role type interface union implements rows auth hide or and not all is true false null viewer query fragment on skip include if id first") {
		wantCheck(t, api.OK, with("type "+w+" { "+w+": "+w+" }"), with("interface "+w+" { "+w+"(id: ID): "+w+" }"), with("union "+w+" = "+w+"2 type "+w+"2 { a: "+w+" }"),
			with("role "+w+" type P @rows(is "+w+") { "+w+": Int @auth("+w+") b: Int @hide("+w+") }"), with("type P implements "+w+" { "+w+": Int } interface "+w+" { "+w+": Int }"))
		asField := api.OK
		if w == "not" || w == "all" || w == "is" {
			asField = api.ErrSyntax
		}
		wantCheck(t, asField, with("type P @rows("+w+" = 1) { "+w+": Int }"))
		asIncluded := api.OK
		if w == "role" || w == "type" || w == "interface" || w == "union" {
			asIncluded = api.ErrSyntax
		}
		wantCheck(t, asIncluded, with("role "+w+" role r: "+w), with("role "+w+" role r: user "+w))
	}
}

func TestCheckSyntaxOfDefinitions(t *testing.T) {
	wantCheck(t, api.ErrSyntax, "", " ,\t\r\n", "#", "# type Query { a: Int }", "x", "7", `"type"`, "{", "...", "Type Query { a: Int }",
		"type", "type Query", "type Query {", "type Query {}", "type Query { a: Int", "type Query { a: Int } }", "type Query { a: Int } x", "type { a: Int }", "type 7 { a: Int }", "type Query [ a: Int ]", "type Query ( a: Int )",
		with("&"), with("role"), with("role :"), with("role 7"), with("role a:"), with("role a: 7"), with("role a: user: boss"), with("role a: user | boss"), with("role a: type"), with("role a: user type"), with("role a b"), with("role a = user"),
		with("interface"), with("interface N"), with("interface N {}"), with("interface N implements M { a: Int }"), with("interface N @rows(all) { a: Int }"),
		with("union"), with("union U"), with("union U ="), with("union U = | Query"), with("union U = Query |"), with("union U = Query || Query"), with("union U = Query P"), with("union U : Query"), with("union U { a: Int }"), with("union U = Query!"), with("union U = [Query]"),
		with("type P implements { a: Int }"), with("type P implements N & M { a: Int }"), with("type P implements N | M { a: Int }"), with("type P implements 7 { a: Int }"), with("type P N { a: Int }"),
		with("type P @rows(all) implements N { a: Int }"), with("type P @rows(all) @rows(all) { a: Int }"), with("type P @auth(user) { a: Int }"), with("type P @ (all) { a: Int }"), with("type P rows(all) { a: Int }"), with("type P @rows { a: Int }"), with("type P { a: Int } @rows(all)"))
}

func TestCheckSyntaxOfFields(t *testing.T) {
	for _, f := range []string{
		"a", "a:", ": Int", "a Int", "a = Int", "a: 7", `a: "Int"`, `"a": Int`, "7: Int", "a: Int b", "a: Int : b", "a: ...", "a: $Int",
		"a: !", "a: Int!!", "a: ! Int", "a: []", "a: [Int", "a: Int]", "a: [Int]]", "a: [[Int]", "a: [Int Int]", "a: [Int]!!", "a: (Int)", "a: [!]",
		"a(): Int", "a(: Query", "a(id): Query", "a(id:): Query", "a(id: ID: Query", "a(id: Int): Query", "a(id: ID!): Query", "a(ID: ID): Query", "a(id: id): Query", "a(x: Int): Query", "a(first: ID): [Int]", "a(first: Int!): [Int]", "a(first: [Int]): [Int]", "a(id: ID first: Int): Query", "a(first: Int, first: Int): [Int]", "a(first: 1): [Int]", "a(id: ID)(id: ID): Query", "a: Query(id: ID)",
		"a: Int @", "a: Int @auth", "a: Int @auth()", "a: Int @auth(", "a: Int @auth(user", "a: Int @auth user", "a: Int auth(user)", "a: Int @auth(user boss)", "a: Int @auth(7)", `a: Int @hide("user")`, "a: Int @hide()", "a: Int @hide",
		"a: Int @auth(user) @auth(user)", "a: Int @auth(user) @hide(user) @auth(boss)", "a: Int @hide(user) @hide(boss)", "a: Int @rows(all)", "a: Int @x", "a: Int @x b: Int", "a: Int @skip(user)", "a: Int @Auth(user)", "a @auth(user): Int", "@auth(user) a: Int", "a: Int @auth(user)!", "a: Int @@auth(user)",
	} {
		wantCheck(t, api.ErrSyntax, with("type P { "+f+" }"), with("interface N { "+f+" }"))
	}
}

func TestCheckSyntaxOfRules(t *testing.T) {
	for _, rule := range []string{
		"", "()", "a", "=", "a =", "= 1", "a = b", "a = user", "a = 1 2", "a == 1", "a : 1", "1 = a", `"a" = 1`, "a = [1]", "a = @\"x\"", "a = $x", "a = !", "a = True", "a = 01", "a = 1000000000", "a = 1x", "a = -", "a = --1", `a = "x`, `a = "\q"`, "a = \"\t\"", "a = \"\x7f\"", "a = 'x'",
		"all all", "all or", "all and", "or all", "and all", "all or or all", "all and and all", "all | all", "all & all", "not", "not or all", "all not", "is", "is 7", "is is user", "is user boss", "is (user)", "is = 1", "all = 1", "not = 1", "not not = 1",
		"(all", "all)", "((all)", "(all))", "(all) (all)", "not ()", "(all or) all", "! all", "all,or,and,all",
	} {
		wantCheck(t, api.ErrSyntax, ruled(rule))
	}
}

func TestCheckSyntaxOfTokens(t *testing.T) {
	for _, c := range []string{"\x00", "\x0b", "\x7f", "\x80", "\xff", "é", "\ufeff", ";", ".", "..", "....", "-", "/", "*", "'", "<", "1a", "01", `"`} {
		wantCheck(t, api.ErrSyntax, with(c), c+example)
		wantCheck(t, api.OK, with("#"+c), "#"+c+"\n"+example)
	}
	wantCheck(t, api.ErrSyntax, "#\r"+with(""))
}

func TestCheckWrongRoles(t *testing.T) {
	wantCheck(t, api.ErrSchema, with("role user"), with("role boss: user"), with("role x role x"), with("role x: x"), with("role x: user x"), with("role x: y role y: x"), with("role x: y role y: z role z: x"), with("role w: x role x: y role y: x"),
		with("role x: nobody"), with("role x: user nobody"), with("role x: Query"), with("role x: Int"), with("role x: User"),
		with("type P { a: Int @auth(nobody) }"), with("type P { a: Int @hide(nobody) }"), with("type P { a: Int @auth(user) @hide(nobody) }"), with("type P { a: Int @hide(P) }"), with("interface N { a: Int @auth(nobody) }"), with("interface N { a: Int @hide(nobody) }"), "type Query { a: Int @auth(user) }",
		ruled("is nobody"), ruled("is P"), ruled("not is nobody"), ruled("all or all and (not is nobody)"), ruled("is user and is nobody"))
}

func TestCheckWrongNames(t *testing.T) {
	body := map[string]string{"type": " { a: Int } ", "interface": " { a: Int } ", "union": " = Query "}
	for kind, b := range body {
		for _, scalar := range []string{"Int", "String", "Boolean", "ID"} {
			wantCheck(t, api.ErrSchema, with(kind+" "+scalar+b))
		}
		for other, c := range body {
			wantCheck(t, api.ErrSchema, with(kind+" X"+b+other+" X"+c))
			wantCheck(t, api.OK, with(kind+" X"+b+other+" Y"+c))
		}
		wantCheck(t, api.ErrSchema, with(kind+" Query"+b))
	}
	for _, kind := range []string{"type", "interface"} {
		wantCheck(t, api.ErrSchema, with(kind+" P { a: Int a: Int }"), with(kind+" P { a: Int b: Int a: String }"), with(kind+" P { __: Int }"), with(kind+" P { a: Int __a: Int }"), with(kind+" P { __typename: String }"))
	}
}

func TestCheckWrongTypes(t *testing.T) {
	for _, f := range []string{
		"a: Nothing", "a: Nothing!", "a: [[Nothing!]]", "a: user", "a: int", "a: query", "a: Float",
		"a(id: ID): Int", "a(id: ID): ID!", "a(id: ID): [P]", "a(id: ID): [P]!", "a(id: ID): Nothing", "a(first: Int): P", "a(first: Int): Int!", "a(first: Int): P!", "a(first: Int): [Nothing]",
	} {
		wantCheck(t, api.ErrSchema, with("type P { "+f+" }"), with("type P { a: Int } interface N { "+f+" }"))
	}
	wantCheck(t, api.ErrSchema, with("union U = Nothing"), with("union U = Int"), with("union U = user"), with("union U = N interface N { a: Int }"), with("union U = U"), with("union U = V union V = Query"), with("union U = Query | Query"), with("union U = Query | P | Query type P { a: Int }"), with("union U = Query | Nothing"))
}

func TestCheckWrongImplements(t *testing.T) {
	n := "interface N { a: Int b(first: Int): [[Int!]] c(id: ID): N @auth(user) d: Int @auth(user) @hide(boss) } "
	good := "a: Int b(first: Int): [[Int!]] c(id: ID): N @auth(user) d: Int @auth(user) @hide(boss)"
	wantCheck(t, api.OK, with(n+"type P implements N { "+good+" }"), with("type P implements N { e: P "+good+" } "+n))
	for _, change := range [][2]string{
		{"a: Int ", ""}, {"a: Int ", "A: Int "}, {"a: Int ", "a: Int! "}, {"a: Int ", "a: [Int] "}, {"a: Int ", "a: ID "}, {"a: Int ", "a: Int @auth(user) "}, {"a: Int ", "a: Int @hide(user) "},
		{"(first: Int)", ""}, {"Int!]", "Int]"}, {"[[Int!]]", "[Int!]"}, {"[[Int!]]", "[[[Int!]]]"}, {"[[Int!]]", "[[Int!]!]"}, {"[[Int!]]", "[[Int!]]!"}, {"[[Int!]]", "[[ID!]]"},
		{"(id: ID)", ""}, {": N @auth(user)", ": N @auth(boss)"}, {": N @auth(user)", ": N"}, {": N @auth(user)", ": N @hide(user)"}, {": N @auth(user)", ": P @auth(user)"},
		{"@auth(user) @hide(boss)", "@auth(boss) @hide(user)"}, {"@auth(user) @hide(boss)", "@hide(boss)"}, {"@auth(user) @hide(boss)", ""},
	} {
		changed := strings.Replace(good, change[0], change[1], 1)
		if changed == good {
			t.Fatalf("nothing is changed by %q", change)
		}
		wantCheck(t, api.ErrSchema, with(n+"type P implements N { "+changed+" }"), with("interface M { a: Int } type P implements M N { "+changed+" } "+n))
	}
	wantCheck(t, api.ErrSchema, with("type P implements N { a: Int }"), with("type P implements Query { a: Int }"), with("type P implements P { a: Int }"), with("type P implements Int { a: Int }"), with("type P implements user { a: Int }"), with("type P implements U { a: Int } union U = Query"),
		with("interface N { a: Int } type P implements N N { a: Int }"), with("interface N { a: Int } interface M { a: Int } type P implements N M N { a: Int }"), with("interface N { a: Int } interface M { b: Int } type P implements N M { a: Int }"),
		with("interface N { a(first: Int): [Int] } type P implements N { a: [Int] }"), with("interface N { a: [Int] } type P implements N { a(first: Int): [Int] }"))
}

func TestCheckWrongRules(t *testing.T) {
	for _, rule := range []string{
		"x = 1", "P = 1", "user = 1", "A = 1", "l = 1", "l = null", "o = null", "m = 1", "h = 1", "not m = 1", "all or h = 1", "all and all and x = 1", "(all or (not (l = 1)))", "a = 1 and b = viewer or x = 1",
	} {
		wantCheck(t, api.ErrSchema, ruled(rule))
	}
	wantCheck(t, api.ErrSchema, with("type P @rows(x = 1) { a: Int } type O { x: Int }"), with("type P @rows(u = null) { u: U } union U = P"), with("type P @rows(n = null) { n: N } interface N { a: Int }"), with("type P @rows(p = null) { p(id: ID): P }"), with("type P @rows(l = null) { l(first: Int): [Int] }"), with("type P @rows(l = null) { l: [Int]! }"),
		with("type P implements N @rows(a = 1) { a: Int @hide(user) } interface N { a: Int @hide(user) }"))
}

func TestCheckWrongQuery(t *testing.T) {
	wantCheck(t, api.ErrSchema, "role a", "type P { a: Int }", "type query { a: Int }", "interface Query { a: Int }", "union Query = P type P { a: Int }", "role Query", "type Query @rows(all) { a: Int }", "role user type Query @rows(is user) { a: Int }")
}

func TestCheckTellsSyntaxAheadOfSchema(t *testing.T) {
	wantCheck(t, api.ErrSyntax, "role a: a ]", "type Int { a: Nothing } type", "role a role a ;", "type Query @rows(x = 1) { a: Int } }", with("role user"+strings.Repeat(" ", api.MaxText)))
}

func TestCheckLimitOfBytes(t *testing.T) {
	for _, fill := range []string{" ", "\n", ",", "#"} {
		pad := func(n int) string { return strings.Repeat(fill, n-len(example)) }
		wantCheck(t, api.OK, example+pad(api.MaxText-1), example+pad(api.MaxText))
		wantCheck(t, api.ErrSyntax, example+pad(api.MaxText+1), example+pad(2*api.MaxText))
	}
	long := func(n int) string {
		return "type Query { " + strings.Repeat("a", n-len("type Query { : Int }")) + ": Int }"
	}
	wantCheck(t, api.OK, long(api.MaxText))
	wantCheck(t, api.ErrSyntax, long(api.MaxText+1))
}

// manyTokens is a right schema with just so many tokens, at least 7.
func manyTokens(n int) string {
	s, have := "type Query{a:Int}", 7
	if (n-have)%2 == 1 {
		s, have = "type Query{a:Int!}", 8
	}
	for ; have < n; have += 2 {
		s += "role r" + strconv.Itoa(have) + " "
	}
	return s
}

func TestCheckLimitOfTokens(t *testing.T) {
	wantCheck(t, api.OK, manyTokens(8), manyTokens(9), manyTokens(api.MaxTokens-1), manyTokens(api.MaxTokens), manyTokens(api.MaxTokens)+"#,")
	wantCheck(t, api.ErrSyntax, manyTokens(api.MaxTokens+1), manyTokens(api.MaxTokens+2), manyTokens(api.MaxTokens)+"!")
}

func TestCheckDeep(t *testing.T) {
	lists := func(n int) string {
		return "type Query{a:" + strings.Repeat("[", n) + "Int" + strings.Repeat("]", n) + "}"
	}
	units := func(open string, n int, close string) string {
		return "type Query{a:Int}type P@rows(" + strings.Repeat(open, n) + "all" + strings.Repeat(close, n) + "){a:Int}"
	}
	wantCheck(t, api.OK, lists(396), units("(", 385, ")"), units("not ", 770, ""), units("", 1, " or all"+strings.Repeat(" and all", 380)))
	wantCheck(t, api.ErrSyntax, lists(397), units("(", 400, ")"), units("not ", 800, ""), strings.Repeat("[", api.MaxText), strings.Repeat("{", 5000000))
	chain := "type Query{a:Int}role r0"
	for i := 1; i < 190; i++ {
		chain += " role r" + strconv.Itoa(i) + ":r" + strconv.Itoa(i-1)
	}
	wantCheck(t, api.OK, chain)
	wantCheck(t, api.ErrSchema, strings.Replace(chain, "role r0", "role r0:r189", 1))
}

// TestCheckEndsAtAnything: whatever is cut off, left out, put in or doubled, Check ends, does not panic, and tells one of its three answers, the same one each time (P1, P2).
func TestCheckEndsAtAnything(t *testing.T) {
	try := func(s string) {
		e := Check(s)
		if e != api.OK && e != api.ErrSyntax && e != api.ErrSchema || Check(s) != e {
			t.Errorf("Check(%q) = %d, then %d", s, e, Check(s))
		}
	}
	words := strings.Fields("role type interface union implements rows auth hide or and not all is true viewer Query Int user id first 7 \"x\" ! $ ( ) : = @ [ ] { } | & ... # ; \x00 \xff -")
	for i := range len(example) + 1 {
		try(example[:i])
		try(example[i:])
		for _, w := range words {
			try(example[:i] + " " + w + " " + example[i:])
		}
	}
	for i := range len(example) {
		for c := range 256 {
			try(example[:i] + string([]byte{byte(c)}) + example[i+1:])
		}
		for j := i; j < len(example); j += 7 {
			try(example[:i] + example[j:])
			try(example[:j] + example[i:])
		}
	}
}

func TestCheckDependsOnItsTextAlone(t *testing.T) {
	texts := []string{example, "type", with("role user"), with("role x: user"), ""}
	want := []api.Errno{api.OK, api.ErrSyntax, api.ErrSchema, api.OK, api.ErrSyntax}
	var wait sync.WaitGroup
	for range 20 {
		for i, s := range texts {
			wait.Go(func() {
				if e := Check(s); e != want[i] {
					t.Errorf("Check(%q) = %d beside others, want %d", s, e, want[i])
				}
			})
		}
	}
	wait.Wait()
}

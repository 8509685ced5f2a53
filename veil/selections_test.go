package veil

import (
	"strconv"
	"strings"
	"testing"
)

// at is a query with selections at a type, by way of a field of Query that has it. Behind a `/` may stand fragments.
func at(typ, text string) string {
	selections, fragments, _ := strings.Cut(text, "/")
	switch typ {
	case "Query":
		return "{" + selections + "}" + fragments
	case "Lone":
		return "{lone{" + selections + "}}" + fragments
	case "Q":
		return "{us{...on Q{" + selections + "}}}" + fragments
	}
	return "{" + strings.ToLower(typ) + `(id:"a"){` + selections + "}}" + fragments
}

func wantGood(t *testing.T, typ string, selections ...string) {
	t.Helper()
	s := worldly(t)
	for _, x := range selections {
		if got := s.Serve(ask("user", at(typ, x))); !strings.HasPrefix(got, `{"data":`) {
			t.Errorf("%q at %s: %.300s", x, typ, got)
		}
	}
}

func wantBad(t *testing.T, typ string, selections ...string) {
	t.Helper()
	for _, x := range selections {
		wantRefused(t, "selection", at(typ, x))
	}
}

func TestFieldsOfTypes(t *testing.T) {
	wantGood(t, "Query", "ints", "flag must shut", "lone{x}", "q{q{ints}}", "ps{id name age same}", "us{__typename}")
	wantGood(t, "P", "id name age same", "pal{pal{id}}", "to{to{id}}", "u{__typename}")
	wantGood(t, "N", "id name", "pal{age}")
	wantGood(t, "Lone", "x")
	wantBad(t, "Query", "nothing", "id", "name", "Ints", "ints nothing", "nothing ints", "a:nothing", "ints:nothing", "P", "Query", "__nothing", "__type", "__schema", "_", "nothing@skip(if:true)", "nothing@include(if:false)", "q{nothing}", "q{q{id}}", "ps{x}", "ps{id pal{id x}}")
	wantBad(t, "P", "x", "ints", "pal{x}", "id x", "a:x")
	wantBad(t, "Q", "age", "u{__typename}")
	wantBad(t, "N", "age", "x", "same", "u{__typename}", "pal{x}")
	wantBad(t, "U", "id", "name", "same", "__typename id", "x")
	wantBad(t, "W", "id", "ints")
	wantBad(t, "Lone", "id")
}

func TestFieldsThatAreHidden(t *testing.T) {
	queries := []string{`{hid(id:"a"){id}}`, `{...{a:hid(id:"a")@skip(if:true){id}}}`, `{...F}fragment F on Query{hid(id:"a"){id}}`}
	for _, typ := range []string{"P", "Q", "N"} {
		for _, x := range []string{"note", "a:note", "id note@skip(if:true)", "...{note}", "...F/fragment F on N{id...{note}}", "...F@include(if:false)/fragment F on N{note}"} {
			queries = append(queries, at(typ, x))
		}
	}
	s := worldly(t)
	for _, query := range queries {
		wantServe(t, s, ask("user", query), refused("selection"))
		wantServe(t, s, ask("aide", query), refused("selection"))
		if got := s.Serve(ask("boss", query)); !strings.HasPrefix(got, `{"data":`) {
			t.Errorf("as boss %q: %s", query, got)
		}
	}
	wantServe(t, s, ask("user", `{hid{id}}`), refused("selection"))
	wantServe(t, s, ask("boss", `{hid{id}}`), refused("selection"))
	wantServe(t, s, ask("user", `{p(id:"a"){id}}fragment F on P{note}`), data(`{"p":{"id":"a"}}`))
	wantServe(t, s, ask("user", `{shut}`), data(`{"shut":null}`, `"shut"`))
}

func TestSelectionsInside(t *testing.T) {
	wantBad(t, "Query", "ints{a}", "ints{__typename}", "flag{id}", "ints(first:1){a}", "q", "lone", "ps", "us", "ps(first:1)", `p(id:"a")`, `u(id:"a")`, "a:q", "q q{ints}", "q{q}", "ps{pal}", "ps{id{id}}", "ps{pal{id{a}}}", "ints{...F}/fragment F on Query{ints}", "q@skip(if:true)")
	wantBad(t, "P", "u", "to", "name{a}", "pal")
}

func TestArguments(t *testing.T) {
	wantGood(t, "Query", "ints(first:1)", "ints(first:-1)", "ints(first:0)", "ints(first:null)", "ints", "ps(first:999999999){id}", `p(id:""){id}`, `p(id:"\"\\\n\t"){id}`, `w(id:"q"){__typename}`)
	wantGood(t, "P", "to{id}", "to(first:1){id}")
	wantBad(t, "Query", `ints(first:"1")`, "ints(first:true)", "ints(first:false)", `ints(id:"a")`, "ints(id:1)", "ints(First:1)", "ints(a:1)", "ints(a:null)", "ints(first:1 first:1)", "ints(first:1 first:2)", "ints(first:1 a:1)", "ints(a:1 first:1)", `ints(first:1 id:"a")`,
		"p{id}", "p(id:null){id}", "p(id:1){id}", "p(id:true){id}", "p(first:1){id}", `p(a:"a"){id}`, `p(id:"a" id:"a"){id}`, `p(id:"a"first:1){id}`, `p(ID:"a"){id}`, "u{__typename}", "n{id}", "w{__typename}",
		"flag(first:1)", `flag(id:"a")`, "flag(first:null)", "must(a:1)", "us(first:1){__typename}", `lone(id:"a"){x}`, `q(id:""){ints}`, "ints(type:1)")
	wantBad(t, "P", `pal(id:"a"){id}`, "name(first:1)", `to(id:"a"){id}`, `u(id:"a"){__typename}`)
}

func TestArgumentsOfVariables(t *testing.T) {
	s := worldly(t)
	for query, want := range map[string]string{
		"{ints(first:$a)}": refused("selection"), "query($b:Int){ints(first:$a)}": refused("selection"), "query($A:Int){ints(first:$a)}": refused("selection"), `query($a:String="x"){ints(first:$a)}`: refused("selection"), "query($a:Boolean){ints(first:$a)}": data(`{"ints":[1,2,3]}`), "query($a:ID){ints(first:$a)}": data(`{"ints":[1,2,3]}`),
		"query($a:ID){p(id:$a){id}}": refused("selection"), "query($a:Int=1){p(id:$a){id}}": refused("selection"), `query($a:ID!="b"){p(id:$a){id}}`: data(`{"p":{"id":"b"}}`), `query($a:String="b"){p(id:$a){id}}`: data(`{"p":{"id":"b"}}`), "{p(id:$a){id}}": refused("selection"),
		"{nothing(a:$a)}": refused("selection"), "query($a:Int){flag(a:$a)}": refused("selection"), "{flag@skip(if:$a)}": refused("selection"), "query($a:Boolean){flag@skip(if:$a)}": refused("selection"), "query($a:Int=1){flag@skip(if:$a)}": refused("selection"), "query($a:Boolean=false){flag@skip(if:$a)}": data(`{"flag":true}`), "query($a:Boolean=false){flag@include(if:$a)}": data("{}"),
		"query($b:Boolean=true){...@include(if:$a){flag}}": refused("selection"), "query($b:Boolean=true){...F@include(if:$a)}fragment F on Query{flag}": refused("selection"), "{...F}fragment F on Query{ints(first:$a)}": refused("selection"), "{flag}fragment F on Query{ints(first:$a)@skip(if:$b)}": data(`{"flag":true}`), "{ints@skip(if:true)...@skip(if:true){ints(first:$a)}}": refused("selection"),
		"query($a:String){__fields(type:$a)}": refused("selection"), "query($a:Int=1){__fields(type:$a)}": refused("selection"), `query($a:ID="Lone"){__fields(type:$a)}`: data(`{"__fields":["x"]}`), "{__fields(type:$a)}": refused("selection"),
	} {
		wantServe(t, s, ask("user", query), want)
	}
}

func TestConditions(t *testing.T) {
	wantGood(t, "Query", "ints@skip(if:true)", "ints@skip(if:false)@include(if:true)@skip(if:true)", "...@skip(if:true){ints}", "...on Query@include(if:false){ints}")
	for _, value := range []string{"null", "1", "0", `"true"`, `""`, "$a"} {
		for _, word := range []string{"skip", "include"} {
			c := "@" + word + "(if:" + value + ")"
			wantBad(t, "Query", "ints"+c, "ints@skip(if:true)"+c, "ints"+c+"@skip(if:true)", "..."+c+"{ints}", "...on Query"+c+"{ints}", "...F"+c+"/fragment F on Query{ints}", "ps"+c+"{id}", "ps{id"+c+"}", "...@skip(if:true){ints"+c+"}", "__typename"+c, "__types"+c)
		}
	}
}

func TestSpreads(t *testing.T) {
	wantGood(t, "Query", "...F/fragment F on Query{ints}", "...F/fragment F on L{ints}", "...F/fragment F on W{__typename}", "...F...F/fragment F on Query{...G}fragment G on L{ints}", "ints/fragment F on P{nothing}fragment G on Nothing{a}", "q{...F}...F/fragment F on Query{ints}")
	wantGood(t, "P", "...F/fragment F on P{age}", "...F/fragment F on N{id}", "...F/fragment F on U{__typename}", "...F/fragment F on N{...G}fragment G on U{...H}fragment H on P{age}")
	wantGood(t, "U", "...F...G/fragment F on P{age}fragment G on Q{x}")
	wantBad(t, "Query", "...F", "ints ...F", "...f/fragment F on Query{ints}", "...F/fragment F on P{id}", "...F/fragment F on N{id}", "...F/fragment F on Int{a}", "...F/fragment F on Nothing{a}", "...F/fragment F on user{a}", "...F/fragment F on Lone{x}", "...F/fragment F on Query{nothing}", "...F/fragment F on Query{q{nothing}}", "...F/fragment F on L{flag}", "...F/fragment F on Query{...G}fragment G on P{id}", "...F/fragment F on Query{...G}", "...F@skip(if:true)/fragment F on Query{nothing}", "...F@skip(if:true)", "q{...F}/fragment F on P{id}")
	wantBad(t, "P", "...F/fragment F on Q{x}", "...F/fragment F on Q{__typename}", "...F/fragment F on W{__typename}", "...F/fragment F on Query{ints}", "...F/fragment F on N{age}", "...F/fragment F on U{id}", "...F/fragment F on L{ints}")
	wantBad(t, "U", "...F/fragment F on Query{ints}", "...F/fragment F on L{ints}", "...F/fragment F on P{x}")
}

// A fragment is good at one type and not at another: that must be seen wherever it is spread.
func TestSpreadsInSeveralPlaces(t *testing.T) {
	wantGood(t, "Query", `ps{...F}us{...F}n(id:"a"){...F}/fragment F on P{age}`)
	wantBad(t, "Query", "ps{...F}...F/fragment F on P{age}", "...F ps{...F}/fragment F on P{age}", `p(id:"a"){...F}w(id:"q"){...F}/fragment F on P{age}`, `ps{...N}us{...on Q{...F}}/fragment N on N{...F}fragment F on P{age}`)
}

func TestInlineParts(t *testing.T) {
	wantGood(t, "Query", "...{ints}", "...{...{flag}}", "...on Query{ints}", "...on L{ints}", "...on W{__typename}", "...on W{...on Query{flag}}", "...on L{...on W{...on Query{flag}}}")
	wantGood(t, "N", "...on P{age}", "...on Q{x}", "...on U{...on P{age}}", "...on N{id}", "...on W{...on Q{x}}", "...{id}")
	wantGood(t, "U", "...on P{age}", "...on N{id}", "...on W{__typename}", "...on U{__typename}", "...{__typename}")
	wantGood(t, "W", "...on Query{ints __types}", "...on Q{x}", "...on L{ints}", "...on N{id}")
	wantBad(t, "Query", "...on P{id}", "...on N{id}", "...on U{__typename}", "...on Lone{x}", "...on Int{a}", "...on ID{a}", "...on Nothing{a}", "...on user{ints}", "...on query{ints}", "...{nothing}", "...on Query{nothing}", "...on L{flag}", "...on L{...on Query{nothing}}", "...on W{ints}", "...on W{...on Q{x}}flag{a}", "...@skip(if:true){nothing}", "...on P@skip(if:true){id}")
	wantBad(t, "P", "...on Q{x}", "...on Q{__typename}", "...on W{__typename}", "...on Query{ints}", "...on N{age}", "...on U{id}", "...{x}", "...on P{...{...on N{age}}}", "...on N{...on Q{age}}", "...on N{...on P{x}}")
	wantBad(t, "U", "...on Query{ints}", "...on L{ints}", "...{id}", "...on P{x}", "...on Q{age}")
}

// Nothing is of an interface that no object implements: selections stand at it, but no part does.
func TestTypesOfNone(t *testing.T) {
	wantGood(t, "Lone", "x", "__typename", "x __typename")
	wantBad(t, "Lone", "...{x}", "...on Lone{x}", "...on N{id}", "...on Query{ints}", "...F/fragment F on Lone{x}", "...{__typename}")
}

func TestFieldsOfNoSchema(t *testing.T) {
	for _, typ := range []string{"Query", "P", "Q", "N", "U", "W", "Lone"} {
		wantGood(t, typ, "__typename", "a:__typename", "__typename __typename", "a:__typename b:__typename@skip(if:true)")
		wantBad(t, typ, "__typename{a}", "__typename(a:1)", "__typename{__typename}", `__typename(type:"P")`, "__Typename", "_typename")
		if typ != "Query" {
			wantBad(t, typ, "__types", `__fields(type:"P")`, "a:__types", "__typename __types")
		}
	}
	wantGood(t, "Query", "__types", "a:__types b:__types", "q{__types}", `__fields(type:"P")`, `__fields(type:"")`, `a:__fields(type:"P")b:__fields(type:"Q")`, `...{__types}`, "...F/fragment F on Query{__types}", `...on L{...on Query{__fields(type:"P")}}`, "__types __types", `__fields(type:"P")__fields(type:"P")`)
	wantBad(t, "Query", "__types{a}", "__types{__typename}", `__types(type:"P")`, "__types(a:1)", "__fields", "__fields(type:null)", "__fields(type:1)", "__fields(type:true)", `__fields(name:"P")`, `__fields(type:"P"){a}`, `__fields(type:"P"){name}`, `__fields(type:"P"type:"P")`, `__fields(type:"P"a:1)`, `__fields(a:1 type:"P")`, `__fields(Type:"P")`, "...on L{__types}", "...on W{__types}", `...on L{__fields(type:"P")}`, `__field(type:"P")`, `__fields(id:"P")`, `...F/fragment F on L{__types}`)
}

func TestFieldsUnderOneKey(t *testing.T) {
	wantGood(t, "Query", "ints ints", "a:ints a:ints", "ints(first:1)ints(first:1)", "ints(first:-0)ints(first:0)", "ints(first:null)ints(first:null)", "ints a:ints(first:1)", "ints@skip(if:true)ints@include(if:true)", "ints:flag flag:ints", "...{ints}ints", "...on L{ints}...{ints}", "...F ints ...F/fragment F on Query{ints}",
		"ps{id}ps{id}", "ps{id}ps{name}", "ps{a:id}ps{b:id}", "ps{pal{a:id}}ps{pal{b:id}}", "ps{pal{id}}ps{pal{id}pal{name}}", `p(id:"a"){id}p(id:"a"){name}`, "q{ints}ints(first:1)", "q{ints(first:1)}ints", "a:q{ints}b:q{ints(first:1)}", "us{...on P{a:age}...on Q{b:x}}", "us{...on P{name}...on Q{name}}", "__typename __typename", "a:__types a:__types", `a:__fields(type:"P")a:__fields(type:"P")`)
	wantBad(t, "Query", "ints ints:flag", "a:ints a:flag", "ints:flag ints", "a:ints b:flag a:must", "ints ints(first:1)", "ints ints(first:null)", "ints(first:null)ints", "ints(first:1)ints(first:2)", "ints(first:1)ints(first:null)", "ints(first:0)ints(first:-1)", "a:ints a:ints(first:1)", `p(id:"a"){id}p(id:"b"){id}`, `a:p(id:"a"){id}a:hid(id:"a"){id}`, `a:p(id:"a"){id}a:n(id:"a"){id}`,
		"ints@skip(if:true)ints:flag", "ints@include(if:false)ints(first:1)", "ints ...{ints:flag}", "...{ints}...{ints(first:1)}", "...{...{...{ints}}}...on L{ints(first:1)}", "ints ...@skip(if:true){ints(first:1)}", "ints ...F/fragment F on Query{ints(first:1)}", "...F...G/fragment F on Query{a:ints}fragment G on Query{a:flag}", "...F/fragment F on Query{ints ints:flag}", "...F/fragment F on Query{...G a:ints}fragment G on L{a:ints(first:1)}",
		"a:__typename a:__types", "a:__types a:ints", `a:__fields(type:"P")a:__fields(type:"Q")`, "flag:__typename flag", `ints(first:1)a:ints b:flag a:ints(first:1)`)
}

func TestFieldsUnderOneKeyInside(t *testing.T) {
	wantBad(t, "Query", "ps{a:id a:name}", "ps{a:id}ps{a:name}", "ps{a:id ...{a:name}}", "ps{pal{a:id}}ps{pal{a:name}}", "ps{pal{a:id}pal{a:name}}", "ps{pal{pal{a:id}}}ps{pal{id}}ps{pal{pal{a:name}}}", "ps{pal{a:id}}...{ps{pal{a:name}}}", "ps{pal{a:id}}...F/fragment F on Query{ps{pal{a:name}}}", "ps{...F}ps{...G}/fragment F on P{pal{a:id}}fragment G on P{pal{a:name}}", "ps{...F}/fragment F on P{pal{a:id}...G}fragment G on P{pal{a:name}}",
		"ps@skip(if:true){a:id}ps{a:name}", "ps{to{a:id}}ps{to(first:1){a:id}}", "a:q{ints}a:q{ints(first:1)}", "q{q{ints}ints}q{q{ints(first:1)}}", "q{...F}q{q{a:flag}}/fragment F on Query{q{a:ints}}", "ps{...{pal{...{a:id}}}}ps{...on N{pal{...on N{a:name}}}}")
	// types are not looked at: no row is of both
	wantBad(t, "Query", "us{...on P{k:id}...on Q{k:x}}", "us{...on P{k:name}...on Q{k:id}}", "us{...on P{pal{k:id}}...on Q{pal{k:name}}}", "us{...on P{k:to{id}}...on Q{k:pal{id}}}", "us{...on P{to(first:1){id}}...on Q{to:pal{id}}}")
	wantGood(t, "Query", "us{...on P{same}...on Q{same{id}}}", "us{...on Q{same{id}}...on P{same}}", "us{...on P{pal{a:id}}...on Q{pal{b:id}}}")
	// what stands with one in one place need not go with what stands with it in another
	wantGood(t, "Query", "a:q{...F k:q{x:ints}}b:q{...F k:q{x:flag}}/fragment F on Query{k:q{y:must}}", "a:ps{...F}b:ps{...G}/fragment F on P{k:id}fragment G on P{k:name}", "a:q{...F}b:q{...F k:flag}/fragment F on Query{ints}")
	wantBad(t, "Query", "a:q{...F k:q{x:ints}}b:q{...F k:q{x:flag}}a:q{...F k:q{x:must}}/fragment F on Query{k:q{y:must}}")
}

// Fragments that spread others many times over lay open far more than could be gone through.
func TestSpreadsManyTimesOver(t *testing.T) {
	s := worldly(t)
	chain := func(n int, each string) string {
		var b strings.Builder
		for i := range n {
			b.WriteString("fragment F" + strconv.Itoa(i) + " on Query{" + strings.ReplaceAll(each, "NEXT", "...F"+strconv.Itoa(i+1)) + "}")
		}
		return b.String() + "fragment F" + strconv.Itoa(n) + " on Query{END}"
	}
	for _, c := range []struct {
		n                   int
		each, end, want, no string
	}{
		{50, "NEXT NEXT NEXT", "flag", `{"flag":true}`, "nothing"}, {30, "NEXT...{NEXT}...on L{...on Query{NEXT}}", "flag", `{"flag":true}`, "nothing"}, {38, "a:q{NEXT}b:q{NEXT}", "flag", `{"a":null,"b":null}`, "a:nothing"}, {40, "NEXT q{NEXT}NEXT", "flag", `{"flag":true,"q":null}`, "flag flag:must"},
		{30, "q{NEXT}q{NEXT}NEXT NEXT", "flag", `{"q":null,"flag":true}`, "k:flag k:must"}, {30, "NEXT@skip(if:true)NEXT@include(if:false)", "flag", `{}`, "ints(first:true)"}, {38, "a:q{NEXT}a:q{NEXT}", "flag", `{"a":null}`, "flag a:flag a:q{ints}"},
	} {
		query := "{...F0}" + chain(c.n, c.each)
		wantServe(t, s, ask("user", strings.Replace(query, "END", c.end, 1)), data(c.want))
		wantServe(t, s, ask("user", strings.Replace(query, "END", c.no, 1)), refused("selection"))
	}
}

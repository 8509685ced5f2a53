package veil

import (
	"strconv"
	"strings"
	"testing"

	"veil/api"
)

// wantSteps: an ask is answered with just so many steps, not with one less.
func wantSteps(t *testing.T, s *Server, role, query string, steps int) {
	t.Helper()
	a := ask(role, query)
	want := s.Serve(a)
	if want == refused("budget") {
		t.Errorf("asked %.300q, the greatest budget is too small", query)
	}
	for _, more := range []int{0, 1, 2, api.MaxBudget - steps} {
		a.Budget = min(steps+more, api.MaxBudget)
		wantServe(t, s, a, want)
	}
	for less := range steps {
		a.Budget = less
		wantServe(t, s, a, refused("budget"))
	}
}

func TestSteps(t *testing.T) {
	s := serverOf(t, `role user role boss: user type Query { i: Int l(first: Int): [Int] ll(first: Int): [[Int!]] p: P ps(first: Int): [P] shut: [Int] @auth(boss) must: Int! strict: [Int!] pt: [P!] f: Int by(id: ID): P } type P @rows(not i = 9) { i: Int! l: [Int] p: P s: [P] @auth(boss) }`,
		row("Query", "", "i", "1", "l", "[1 2 3]", "ll", "[[1 2] [] null [3]]", "p", `@"a"`, "ps", `[@"a" @"h" @"z" null @"a"]`, "shut", "[1 2 3 4]", "strict", "[1 null 2 !]", "pt", `[@"b" @"a"]`, "f", "!"),
		row("P", "a", "i", "1", "l", "[1 2]", "p", `@"b"`, "s", `[@"a"]`), row("P", "b"), row("P", "h", "i", "9", "l", "[1 2 3 4]"))
	for query, steps := range map[string]int{
		"{i}": 1, "{i i}": 1, "{a:i b:i}": 2, "{i@skip(if:true)}": 0, "{...@skip(if:true){i}f}": 1, "{...{...on Query{i}}...F}fragment F on Query{i f}": 2, "{__typename}": 1, "{__types}": 1, `{__fields(type:"Query")}`: 1, `{__fields(type:"none")a:__types}`: 2, "{f}": 1, "{must}": 1,
		"{l}": 4, "{l(first:2)}": 3, "{l(first:0)}": 1, "{l(first:-5)}": 1, "{l(first:null)}": 4, "{ll}": 1 + 4 + 3, "{ll(first:1)}": 1 + 1 + 2, "{ll(first:3)}": 1 + 3 + 2, "{strict}": 5, "{strict i}": 6, "{must l}": 5,
		"{p{i}}": 2, "{p{i@skip(if:true)}}": 1, "{p{l p{l i}}}": 1 + 1 + 2 + 1 + 2, "{p{i}p{l}}": 1 + 1 + 1 + 2, "{ps{i}}": 1 + 5 + 2, "{ps{i l}}": 1 + 5 + 2*2 + 2*2, "{ps(first:1){i}}": 3, "{ps(first:4){i}}": 6, "{pt{i}}": 1 + 2 + 2, "{pt{i l}i}": 1 + 2 + 2 + 4 + 1, "{p{p{p{i}}}}": 3, "{p{p{i l}l}}": 1 + 1 + 1 + 1 + 1 + 2,
		"{shut}": 1, "{p{s{i l}}}": 2, `{by(id:"a"){i l}}`: 1 + 1 + 3, `{by(id:"h"){i l}}`: 1, `{by(id:"z"){i l}}`: 1,
	} {
		wantSteps(t, s, "user", query, steps)
	}
	wantSteps(t, s, "boss", "{shut}", 5)
	wantSteps(t, s, "boss", "{p{s{i l}}}", 1+1+1+1+1+2)
}

func TestBudgetsOfNone(t *testing.T) {
	s := worldly(t)
	for _, budget := range []int{-1, -2, api.MaxBudget + 1, api.MaxBudget + 2, 1 << 31, 1<<31 - 1, -1 << 31, 1 << 32, 1<<32 + 1, 1<<63 - 1, -1 << 63} {
		for _, query := range []string{"{flag}", "{flag@skip(if:true)}", "{ints must}"} {
			a := ask("user", query)
			a.Budget = budget
			wantServe(t, s, a, refused("budget"))
		}
	}
	a := ask("user", "{flag@skip(if:true)}")
	for _, budget := range []int{0, 1, api.MaxBudget} {
		a.Budget = budget
		wantServe(t, s, a, data("{}"))
	}
}

// The greatest budget is met, and exceeded, by what a store may have.
func TestGreatestBudget(t *testing.T) {
	s := serverOf(t, "role user type Query { l(first: Int): [Int] ps(first: Int): [P] } type P { l(first: Int): [Int] i: Int }",
		row("Query", "", "l", "["+strings.Repeat("1 ", 798)+"]", "ps", "["+strings.Repeat(`@"a"`, 399)+"]"), row("P", "a", "l", "["+strings.Repeat("1 ", 11)+"]"))
	// 1 + 399 + 399 * 11 = 4789 steps, and those of l
	full := func(n int) string { return "{ps{l(first:10)}l(first:" + strconv.Itoa(n) + ")}" }
	want := data(`{"ps":[` + strings.Repeat(`{"l":[1,1,1,1,1,1,1,1,1,1]},`, 398) + `{"l":[1,1,1,1,1,1,1,1,1,1]}],"l":[` + strings.Repeat("1,", 209) + "1]}")
	wantServe(t, s, ask("user", full(api.MaxBudget-4789-1)), want)
	wantServe(t, s, ask("user", full(api.MaxBudget-4789)), refused("budget"))
	wantServe(t, s, ask("user", "{ps{l i}l}"), refused("budget"))
}

// Each field asks for as much again: without the budget there would be no end.
func TestAnswersEnd(t *testing.T) {
	s := serverOf(t, "role user type Query { p: P } type P { p: P l: [P!]! }", row("Query", "", "p", `@"a"`), row("P", "a", "p", `@"a"`, "l", "["+strings.Repeat(`@"a"`, 300)+"]"))
	for _, each := range []string{"a:p{NEXT}b:p{NEXT}", "l{NEXT}", "l{p{NEXT}}p{l{NEXT}}", "a:l{NEXT}b:l{p{p{p{NEXT}}}}"} {
		for _, n := range []int{13, 20, 26} {
			var b strings.Builder
			for i := range n {
				b.WriteString("fragment F" + strconv.Itoa(i) + " on P{" + strings.ReplaceAll(each, "NEXT", "...F"+strconv.Itoa(i+1)) + "}")
			}
			query := "{p{...F0}}" + b.String() + "fragment F" + strconv.Itoa(n) + " on P{__typename}"
			wantServe(t, s, ask("user", query), refused("budget"))
			wantServe(t, s, ask("user", query+"fragment G on P{...G}"), refused("fragment"))
		}
	}
	// deep as well: nine in one another for each fragment
	var b strings.Builder
	for i := range 22 {
		b.WriteString("fragment F" + strconv.Itoa(i) + " on P" + strings.Repeat("{p", 9) + "{...F" + strconv.Itoa(i+1) + "}" + strings.Repeat("}", 9))
	}
	want := data(`{"p":` + strings.Repeat(`{"p":`, 22*9) + `{"__typename":"P"}` + strings.Repeat("}", 22*9) + "}")
	wantServe(t, s, ask("user", "{p{...F0}}"+b.String()+"fragment F22 on P{__typename}"), want)
}

// As many rows as there may be, all of them asked for.
func TestAnswersOfAllRows(t *testing.T) {
	have := rows(row("Query", ""))
	var ids, want strings.Builder
	for i := range api.MaxRows - 1 {
		n := strconv.Itoa(i)
		have = append(have, row("P", "p"+n, "i", n, "next", `@"p`+strconv.Itoa(i+1)+`"`))
		ids.WriteString(`@"p` + n + `"`)
		want.WriteString(`,{"i":` + n + "}")
	}
	have[0].Cells = []api.Cell{{Name: "l", Text: "[" + ids.String() + "]"}}
	s := serverOf(t, "role user type Query { l: [P!]! } type P { i: Int next: P }", have...)
	wantServe(t, s, ask("user", "{l{i}}"), data(`{"l":[`+want.String()[1:]+"]}"))
	got := s.Serve(ask("user", "{l{next{i}}}"))
	if !strings.HasSuffix(got, `{"next":{"i":198}},{"next":null}]},"errors":[{"message":"not available","path":["l",198,"next"]}]}`) {
		t.Errorf("the last rows are told as %s", got[max(0, len(got)-300):])
	}
}

// Whatever is asked, there is an answer, and it is one of the two forms.
func TestServeTakesAnything(t *testing.T) {
	s := worldly(t)
	texts := []string{"", "{", "}", "{ints}", "query", "...", "$", "\x00\xff", `{"a":1}`, `"`, "{...F}", "fragment F on P{id}", "{a(b:$c)@skip(if:$d){e}}", strings.Repeat("{a", 300), strings.Repeat("...", 300), strings.Repeat("(", 800), strings.Repeat("\"", 801), strings.Repeat("x", 5000000), "query($a:Int=1){ints(first:$a)}", "#", "é", "{__typename __types}"}
	for _, role := range []string{"user", "", "\xff", "P"} {
		for _, query := range texts {
			for _, values := range texts {
				for _, budget := range []int{-1 << 63, 0, 7, 1<<63 - 1} {
					got := s.Serve(api.Ask{Viewer: api.Viewer{Role: role, ID: query}, Query: query, Values: values, Budget: budget})
					if !strings.HasPrefix(got, `{"data":`) && !strings.HasPrefix(got, `{"errors":[{"message":"`) || !strings.HasSuffix(got, "}") {
						t.Errorf("as %q asked %.60q with %.60q of %d: %.100s", role, query, values, budget, got)
					}
				}
			}
		}
	}
}

// Each piece of a query, and each two pieces in each other's place.
func TestServeTakesPieces(t *testing.T) {
	s := worldly(t)
	const query = `query Q($a:Int=1,$b:ID!="a"){x:ints(first:$a)@skip(if:false) p(id:$b){...on N{id}...F@include(if:true)}}fragment F on P{to(first:2){__typename}}`
	for i := range query {
		for _, q := range []string{query[:i], query[i:], query[:i] + "}" + query[i:], query[:i] + "$" + query[i:], query[:i] + query[min(i+1, len(query)):]} {
			if got := s.Serve(ask("user", q)); got == "" {
				t.Errorf("asked %q: nothing", q)
			}
		}
	}
	wantServe(t, s, ask("user", query), data(`{"x":[1],"p":{"id":"a","to":[{"__typename":"P"}]}}`))
}

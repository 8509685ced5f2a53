package queries

import (
	"reflect"
	"strings"
	"testing"

	"veil/api"
	"veil/value"
)

func read(t *testing.T, text string) *Query {
	t.Helper()
	q, ok := Read(text)
	if !ok {
		t.Fatalf("Read(%q) fails", text)
	}
	return q
}

func number(n int) value.Value         { return value.Value{Kind: value.Number, Number: n} }
func variable(name string) value.Value { return value.Value{Kind: value.Variable, Text: name} }

func TestRead(t *testing.T) {
	q := read(t, `query Q($a:Int!=1$b:ID){x:f(a:1 b:$b)@skip(if:true)@include(if:$c){g}...F@skip(if:false)...on T{h}...{i}}fragment F on T{j}{k}`)
	if len(q.Operations) != 2 || len(q.Fragments) != 1 || len(q.Parts) != 6 {
		t.Fatalf("there are %d operations, %d fragments, %d parts", len(q.Operations), len(q.Fragments), len(q.Parts))
	}
	if want := []Variable{{Name: "a", Scalar: "Int", Strict: true, HasDefault: true, Default: number(1)}, {Name: "b", Scalar: "ID"}}; !reflect.DeepEqual(q.Operations[0].Variables, want) {
		t.Errorf("variables are %v, want %v", q.Operations[0].Variables, want)
	}
	s := q.Operations[0].Part.Selections
	if len(s) != 4 || s[0].Kind != FieldKind || s[1].Kind != SpreadKind || s[2].Kind != InlineKind || s[3].Kind != InlineKind {
		t.Fatalf("selections are %v", s)
	}
	if s[0].Key != "x" || s[0].Name != "f" || !reflect.DeepEqual(s[0].Arguments, []Argument{{"a", number(1)}, {"b", variable("b")}}) {
		t.Errorf("a field is %v", s[0])
	}
	if want := []Condition{{value.True, value.Value{Kind: value.True}}, {value.False, variable("c")}}; !reflect.DeepEqual(s[0].Conditions, want) {
		t.Errorf("conditions are %v, want %v", s[0].Conditions, want)
	}
	if s[0].Part.Selections[0].Name != "g" || s[0].Part.Selections[0].Key != "g" || s[1].Name != "F" || s[1].Part != nil || s[2].Part.Type != "T" || s[3].Part.Type != "" {
		t.Errorf("what stands inside is %v", s)
	}
	if f := q.Fragments[0]; f.Name != "F" || f.Part.Type != "T" || f.Part.Selections[0].Name != "j" {
		t.Errorf("a fragment is %v", f)
	}
	for i, p := range q.Parts {
		if p.Number != i {
			t.Errorf("the part at %d is numbered %d", i, p.Number)
		}
	}
}

func TestReadWrong(t *testing.T) {
	for _, text := range []string{"", "{", "{}", "a", "{a}b", "query", "query(){a}", "query($a:Int=$b){a}", "fragment on on T{a}", "{...on}", "{a@b(if:true)}", "{a()}", strings.Repeat("{a", api.MaxDepth+1) + strings.Repeat("}", api.MaxDepth+1)} {
		if _, ok := Read(text); ok {
			t.Errorf("Read(%q) does not fail", text)
		}
	}
	read(t, strings.Repeat("{a", api.MaxDepth)+strings.Repeat("}", api.MaxDepth))
}

func TestReadValues(t *testing.T) {
	for text, want := range map[string]Values{
		"": {}, " # ": {}, "{}": {}, `{"a":1"b c":null}`: {"a": number(1), "b c": value.Value{}},
	} {
		if got, ok := ReadValues(text); !ok || !reflect.DeepEqual(got, want) {
			t.Errorf("ReadValues(%q) = %v, %v, want %v", text, got, ok, want)
		}
	}
	for _, text := range []string{"{", "}", "{a:1}", `{"a":$b}`, `{"a":1"a":1}`, `{"a":1}{}`, ";"} {
		if got, ok := ReadValues(text); ok {
			t.Errorf("ReadValues(%q) = %v", text, got)
		}
	}
}

func TestLink(t *testing.T) {
	q := read(t, "{...F...G}fragment F on T{a{...H}}fragment H on T{b}")
	if !q.Link() {
		t.Fatal("there is no circle")
	}
	s := q.Operations[0].Part.Selections
	if s[0].Part != q.Fragments[0].Part || s[1].Part != nil || q.Fragments[0].Part.Selections[0].Part.Selections[0].Part != q.Fragments[1].Part {
		t.Error("spreads have not the parts of their fragments")
	}
	for text, want := range map[string]bool{
		"{a}fragment F on T{...F}": false, "{a}fragment F on T{a{...{...G}}}fragment G on T{b{...F}}": false, "{a}fragment F on T{a}fragment F on U{a}": false,
		"{...F...F}fragment F on T{...G...G}fragment G on T{a}": true, "{a}fragment F on T{...G}": true, "{a}": true,
	} {
		if read(t, text).Link() != want {
			t.Errorf("Link of %q is %v", text, !want)
		}
	}
}

func TestBind(t *testing.T) {
	q := read(t, "query($a:Int=1$b:Boolean$c:Int){f(x:$a y:$c z:$d)@skip(if:$b)}fragment F on T{g(x:$a)}")
	if !q.Bind(Values{"b": {Kind: value.True}, "d": number(2)}) {
		t.Fatal("the variables are right")
	}
	s := q.Operations[0].Part.Selections[0]
	if want := []Argument{{"x", number(1)}, {"y", value.Value{}}, {"z", variable("d")}}; !reflect.DeepEqual(s.Arguments, want) || s.Conditions[0].Value.Kind != value.True || !s.LeftOut() {
		t.Errorf("values are %v, %v, want %v", s.Arguments, s.Conditions, want)
	}
	if g := q.Fragments[0].Part.Selections[0]; g.Arguments[0].Value != number(1) || g.LeftOut() {
		t.Errorf("in a fragment values are %v", g.Arguments)
	}
	for _, text := range []string{"query($a:Int$a:Int){f}", "query($a:T){f}", "query($a:Int!){f}", "query($a:Int=true){f}", "query($a:Int!=null){f}", "query($s:Int){f}", "query($n:Int!=1){f}"} {
		if read(t, text).Bind(Values{"s": {Kind: value.String}, "n": {}}) {
			t.Errorf("Bind of %q is true", text)
		}
	}
}

func TestAgrees(t *testing.T) {
	for text, want := range map[string]bool{
		"{a a}": true, "{a a:b}": false, "{a(x:1)a(x:1)}": true, "{a(x:1)a}": false, "{a(x:null)a}": false, "{x{a}x{a:b}}": false, "{x{a}y{a:b}}": true, "{x{y{a}}...{x{y{a:b}}}}": false, "{a...F}fragment F on T{...G}fragment G on T{a:b}": false, "{a}fragment G on T{a:c a:b}": true,
		"{x{...F k{a}}y{...F k{a:b}}}fragment F on T{k{c}}": true, "{x{...F k{a}}x{...F k{a:b}}}fragment F on T{k{c}}": false, "{x x{a}}": true, "{x{a a:b}}": false,
	} {
		q := read(t, text)
		if !q.Link() || q.Agrees() != want {
			t.Errorf("Agrees of %q is %v", text, !want)
		}
	}
}

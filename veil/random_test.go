package veil

import (
	"maps"
	"slices"
	"strconv"
	"strings"
	"testing"

	"veil/api"
	"veil/token"
)

// dice fall the same way at every run.
type dice uint64

func (d *dice) below(n int) int {
	*d = *d*6364136223846793005 + 1442695040888963407
	return int(uint64(*d)>>33) % n
}

func (d *dice) in100(n int) bool { return d.below(100) < n }

func pick[T any](d *dice, list ...T) T { return list[d.below(len(list))] }

// schema makes a schema: Query, A and B, an interface N of A and perhaps B and Query, one of none, and two unions.
func (d *dice) schema() litSchema {
	n := d.fields("n", 3)
	def := func(kind, name, prefix string, of ...string) litDef {
		x := litDef{kind: kind, name: name, of: of, fields: d.fields(prefix, 4)}
		if name != "Query" {
			x.rule = pick(d, litRules...)
			x.fields = append(x.fields, litField{name: "open", typ: &litType{name: "Boolean"}}, litField{name: "owner", typ: &litType{name: "ID"}})
		}
		if slices.Contains(of, "N") {
			x.fields = append(x.fields, n...)
		}
		return x
	}
	s := litSchema{{kind: "interface", name: "N", fields: n}, def("type", "A", "a", "N"), {kind: "union", name: "U", of: []string{"A", "B"}}, def("type", "B", pick(d, "a", "b")), {kind: "interface", name: "Lone", fields: d.fields("l", 2)}, def("type", "Query", "q"), {kind: "union", name: "W", of: []string{"B", "Query"}}}
	for _, i := range []int{3, 5} {
		if d.in100(50) {
			s[i].of = []string{"N"}
			s[i].fields = append(s[i].fields, n...)
		}
	}
	return s
}

func (d *dice) fields(prefix string, most int) []litField {
	var list []litField
	for i := range 1 + d.below(most) {
		f := litField{name: prefix + strconv.Itoa(i), typ: d.typ(2)}
		if d.in100(15) {
			f.auth = pick(d, "user", "boss", "aide")
		}
		if d.in100(12) {
			f.hide = pick(d, "user", "boss", "aide")
		}
		if d.in100(50) {
			if f.typ.inner != nil {
				f.arg = "first"
			} else if !litScalar(f.typ.name) {
				f.arg = "id"
			}
		}
		list = append(list, f)
	}
	return list
}

func (d *dice) typ(depth int) *litType {
	if depth > 0 && d.in100(40) {
		return &litType{inner: d.typ(depth - 1), strict: d.in100(30)}
	}
	return &litType{name: pick(d, "Int", "String", "ID", "Boolean", "A", "B", "N", "U", "W", "A", "B", "N", "U", "Query", "Lone"), strict: d.in100(30)}
}

func (t *litType) text() string {
	text := t.name
	if t.inner != nil {
		text = "[" + t.inner.text() + "]"
	}
	if t.strict {
		text += "!"
	}
	return text
}

func (s litSchema) text() string {
	text := "role user role boss: user role aide "
	for _, d := range s {
		text += d.kind + " " + d.name
		if d.kind == "union" {
			text += " = " + strings.Join(d.of, " | ") + "\n"
			continue
		}
		if len(d.of) > 0 {
			text += " implements " + strings.Join(d.of, " ")
		}
		if d.rule != "" {
			text += " @rows(" + d.rule + ")"
		}
		text += " {"
		for _, f := range d.fields {
			text += " " + f.text()
		}
		text += " }\n"
	}
	return text
}

func (f litField) text() string {
	text := f.name
	switch f.arg {
	case "id":
		text += "(id: ID)"
	case "first":
		text += "(first: Int)"
	}
	text += ": " + f.typ.text()
	if f.auth != "" {
		text += " @auth(" + f.auth + ")"
	}
	if f.hide != "" {
		text += " @hide(" + f.hide + ")"
	}
	return text
}

var litIDs = []string{"a", "b", "c", "d", "e", "z"}

// rows makes a store: some ids are nobody's.
func (d *dice) rows(s litSchema) []litRow {
	var list []litRow
	if d.in100(90) {
		list = append(list, litRow{typ: "Query"})
	}
	for _, id := range litIDs[:5] {
		if d.in100(80) {
			list = append(list, litRow{typ: pick(d, "A", "B"), id: id})
		}
	}
	for i := range list {
		list[i].cells = map[string]litValue{}
		for _, f := range s.def(list[i].typ).fields {
			if f.arg != "id" && d.in100(85) {
				list[i].cells[f.name] = d.content(s, list, f.typ)
			}
		}
	}
	return list
}

// content makes a value that fits a type.
func (d *dice) content(s litSchema, have []litRow, t *litType) litValue {
	if d.in100(12) {
		return litValue{kind: pick(d, byte('n'), '!')}
	}
	if t.inner != nil {
		v := litValue{kind: '['}
		for range d.below(4) {
			v.items = append(v.items, d.content(s, have, t.inner))
		}
		return v
	}
	switch t.name {
	case "Int":
		return litValue{kind: 'i', n: d.below(9) - 4}
	case "String", "ID":
		return litValue{kind: 's', s: pick(d, "me", "you", "a\n\"b", "")}
	case "Boolean":
		return litValue{kind: pick(d, byte('t'), 'f')}
	}
	v := litValue{kind: '@', s: pick(d, litIDs...)}
	i := slices.IndexFunc(have, func(r litRow) bool { return r.id == v.s })
	if i >= 0 && !slices.Contains(s.objectsOf(t.name), have[i].typ) {
		return litValue{kind: 'n'}
	}
	return v
}

func litTold(list []litRow) []api.Row {
	var out []api.Row
	for _, r := range list {
		x := api.Row{Type: r.typ, ID: r.id}
		for _, name := range slices.Sorted(maps.Keys(r.cells)) {
			x.Cells = append(x.Cells, api.Cell{Name: name, Text: r.cells[name].text()})
		}
		out = append(out, x)
	}
	return out
}

// asker makes queries over a schema, most of them good.
type asker struct {
	*dice
	schema litSchema
	spread []litFragment // those that may be spread
	keys   int
}

func (a *asker) selections(typ string, depth int) []*litSel {
	var list []*litSel
	for range 1 + a.below(4) {
		list = append(list, a.selection(typ, depth))
	}
	return list
}

func (a *asker) selection(typ string, depth int) *litSel {
	s := &litSel{conds: a.conditions()}
	switch {
	case depth > 0 && a.in100(15):
		s.kind, s.on = 'p', pick(a.dice, "", typ, "A", "B", "N", "U", "Query", "W")
		if s.on != "" && !a.schema.meet(s.on, typ) && a.in100(95) {
			s.on = ""
		}
		on := s.on
		if on == "" {
			on = typ
		}
		s.inner = a.selections(on, depth-1)
		return s
	case len(a.spread) > 0 && a.in100(25):
		f := pick(a.dice, a.spread...)
		if a.schema.meet(f.on, typ) || a.in100(3) {
			s.kind, s.name = 's', f.name
			return s
		}
	}
	return a.field(s, typ, depth)
}

func (a *asker) field(s *litSel, typ string, depth int) *litSel {
	s.kind, s.name = 'f', "__typename"
	d := a.schema.def(typ)
	if d != nil && len(d.fields) > 0 && a.in100(85) {
		f := pick(a.dice, d.fields...)
		if f.hide != "" {
			f = pick(a.dice, d.fields...)
		}
		inner := f.typ.innermost()
		if s.name = f.name; !litScalar(inner) {
			if depth == 0 {
				s.name = "__typename"
			} else {
				s.deep, s.inner = true, a.selections(inner, depth-1)
			}
		}
		if s.name == f.name {
			a.arguments(s, f.arg)
		}
	} else if typ == "Query" && a.in100(50) {
		if s.name = "__types"; a.in100(50) {
			s.name, s.args = "__fields", []litArg{{"type", litValue{kind: 's', s: pick(a.dice, "A", "N", "U", "Int", "Query", "Lone")}}}
		}
	} else if a.in100(2) {
		s.name = pick(a.dice, "nothing", "__types", "q0", "open")
	}
	s.key = s.name
	if a.in100(25) || len(s.args) > 0 && a.in100(80) {
		a.keys++
		s.key = "k" + strconv.Itoa(a.keys)
	} else if a.in100(3) {
		s.key = pick(a.dice, "x", "y")
	}
	return s
}

func (a *asker) arguments(s *litSel, arg string) {
	if a.in100(1) {
		arg = pick(a.dice, "id", "first", "")
	}
	switch {
	case arg == "id":
		s.args = []litArg{{"id", pick(a.dice, litValue{kind: 's', s: pick(a.dice, append(litIDs, "")...)}, litValue{kind: 's', s: "a"}, litValue{kind: 's', s: "b"}, litValue{kind: '$', s: "d"})}}
	case arg == "first" && a.in100(50):
		s.args = []litArg{{"first", pick(a.dice, litValue{kind: 'i', n: a.below(5) - 1}, litValue{kind: 'n'}, litValue{kind: '$', s: "i"}, litValue{kind: '$', s: "m"})}}
	}
}

func (a *asker) conditions() []litArg {
	var list []litArg
	for a.in100(12) {
		list = append(list, litArg{pick(a.dice, "skip", "include"), pick(a.dice, litValue{kind: 't'}, litValue{kind: 'f'}, litValue{kind: '$', s: "y"}, litValue{kind: '$', s: "n"})})
	}
	if a.in100(1) {
		list = append(list, litArg{"skip", pick(a.dice, litValue{kind: 'n'}, litValue{kind: '$', s: "o"}, litValue{kind: '$', s: "none"})})
	}
	return list
}

func selectionsText(list []*litSel) string {
	var b strings.Builder
	b.WriteString("{")
	for _, s := range list {
		b.WriteString(" " + s.text())
	}
	return b.String() + " }"
}

func (s *litSel) text() string {
	text := "..." + s.name
	if s.kind == 'f' {
		text = s.key + ":" + s.name
	} else if s.on != "" {
		text = "...on " + s.on
	}
	if len(s.args) > 0 {
		text += "("
		for _, a := range s.args {
			text += a.name + ":" + a.val.text() + " "
		}
		text += ")"
	}
	for _, c := range s.conds {
		text += " @" + c.name + "(if:" + c.val.text() + ")"
	}
	if s.kind == 'p' || s.deep {
		text += selectionsText(s.inner)
	}
	return text
}

// litVars are the variables that every random query has, with the values that it is asked with.
const (
	litHead   = `query($i:Int=1 $m:Int $y:Boolean=false $n:Boolean!=false $d:ID="c" $o:Boolean)`
	litValues = `{"y":true "d":"b" "m":null "other":7}`
)

func litVars() map[string]litValue {
	return map[string]litValue{"i": {kind: 'i', n: 1}, "m": {kind: 'n'}, "y": {kind: 't'}, "n": {kind: 'f'}, "d": {kind: 's', s: "b"}, "o": {kind: 'n'}}
}

// query makes a query: its fragments spread only those behind them.
func (d *dice) query(s litSchema) (string, []*litSel, []litFragment) {
	a := &asker{dice: d, schema: s}
	var fragments []litFragment
	text := ""
	for i := range d.below(4) {
		f := litFragment{name: "F" + strconv.Itoa(i), on: pick(d, "A", "B", "N", "U", "Query", "W")}
		f.sels = a.selections(f.on, 2)
		fragments = append(fragments, f)
		a.spread = append(a.spread, f)
		text += "fragment " + f.name + " on " + f.on + selectionsText(f.sels)
	}
	sels := a.selections("Query", 3)
	if d.in100(1) {
		sels = append(sels, &litSel{kind: 's', name: "none"})
	}
	return litHead + selectionsText(sels) + text, sels, fragments
}

func kindOf(answer string) string {
	switch {
	case strings.HasPrefix(answer, `{"errors"`):
		return answer
	case strings.HasPrefix(answer, `{"data":null`):
		return "null"
	case strings.Contains(answer, `,"errors":[`):
		return "failed"
	}
	return "whole"
}

// TestAnswersWordForWord holds answers against what the document says, read word for word.
func TestAnswersWordForWord(t *testing.T) {
	d := dice(1)
	kinds := map[string]int{}
	for range 1000 {
		schema := d.schema()
		have := d.rows(schema)
		s := serverOf(t, schema.text(), litTold(have)...)
		for range 10 {
			text, sels, fragments := d.query(schema)
			viewer := api.Viewer{Role: pick(&d, "user", "boss", "aide"), ID: pick(&d, "me", "you")}
			l := &literal{schema: schema, rows: have, fragments: fragments, vars: litVars(), viewer: viewer}
			a := api.Ask{Viewer: viewer, Query: text, Values: litValues, Budget: pick(&d, api.MaxBudget, api.MaxBudget, d.below(30))}
			if _, ok := token.Cut(text); !ok {
				continue
			}
			want := l.answer(sels, a.Budget)
			got := s.Serve(a)
			if got != want {
				t.Fatalf("schema %s\nrows %q\nviewer %q asks %s of budget %d\n got %.2000s\nwant %.2000s", schema.text(), litTold(have), viewer, text, a.Budget, got, want)
			}
			kinds[kindOf(got)]++
		}
	}
	for _, kind := range []string{refused("selection"), refused("budget"), "null", "failed", "whole"} {
		if kinds[kind] < 100 {
			t.Errorf("only %d answers are %s", kinds[kind], kind)
		}
	}
}

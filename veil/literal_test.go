package veil

import (
	"slices"
	"strconv"
	"strings"

	"veil/api"
)

// What follows reads the document's promise of answers (P6) word for word, over forms that were never written as a text: everything is laid open as often as it is spread, and every two fields are held against each other. It is what the answers of small random queries are held against.

type litType struct {
	name   string // empty for a list
	inner  *litType
	strict bool
}

type litField struct {
	name, arg, auth, hide string
	typ                   *litType
}

// litDef is an object, an interface or a union; of: what it implements, or its members.
type litDef struct {
	kind, name, rule string
	fields           []litField
	of               []string
}

type litSchema []litDef

// litValue is of the kinds n (null) i s t f @ [ ! and $ (a variable).
type litValue struct {
	kind  byte
	n     int
	s     string
	items []litValue
}

type litRow struct {
	typ, id string
	cells   map[string]litValue
}

// litArg is an argument, or a condition.
type litArg struct {
	name string
	val  litValue
}

// litSel is of the kinds f (field), s (spread), p (inline part).
type litSel struct {
	kind          byte
	key, name, on string
	args, conds   []litArg
	deep          bool
	inner         []*litSel
}

type litFragment struct {
	name, on string
	sels     []*litSel
}

type literal struct {
	schema    litSchema
	rows      []litRow
	fragments []litFragment
	vars      map[string]litValue
	viewer    api.Viewer
	steps     int
	errors    []string
}

func (s litSchema) def(name string) *litDef {
	i := slices.IndexFunc(s, func(d litDef) bool { return d.name == name })
	if i < 0 {
		return nil
	}
	return &s[i]
}

// objectsOf tells the objects that are of a type.
func (s litSchema) objectsOf(name string) []string {
	var list []string
	for _, d := range s {
		u := s.def(name)
		if d.kind == "type" && (d.name == name || slices.Contains(d.of, name) || u != nil && u.kind == "union" && slices.Contains(u.of, d.name)) {
			list = append(list, d.name)
		}
	}
	return list
}

func (s litSchema) meet(a, b string) bool {
	return slices.ContainsFunc(s.objectsOf(a), func(o string) bool { return slices.Contains(s.objectsOf(b), o) })
}

func (s litSchema) field(typ, name string) *litField {
	d := s.def(typ)
	if d == nil || d.kind == "union" {
		return nil
	}
	i := slices.IndexFunc(d.fields, func(f litField) bool { return f.name == name })
	if i < 0 {
		return nil
	}
	return &d.fields[i]
}

func (t *litType) innermost() string {
	for t.inner != nil {
		t = t.inner
	}
	return t.name
}

func litScalar(name string) bool { return strings.Contains(" Int String ID Boolean ", " "+name+" ") }

// has: of the roles user, boss (a user too), aide.
func (l *literal) has(role string) bool {
	return role == "" || role == l.viewer.Role || l.viewer.Role == "boss" && role == "user"
}

// litRules are all rules that a random schema has.
var litRules = []string{"", "open = true", "is boss or owner = viewer", "not (open = false or open = null) and is user", "not all"}

func (l *literal) hidden(r *litRow) bool {
	open, owner := r.cells["open"], r.cells["owner"]
	switch l.schema.def(r.typ).rule {
	case litRules[1]:
		return open.kind != 't'
	case litRules[2]:
		return !l.has("boss") && (owner.kind != 's' || owner.s != l.viewer.ID)
	case litRules[3]:
		return !l.has("user") || open.kind != 't' && open.kind != '!'
	case litRules[4]:
		return true
	}
	return false
}

func (l *literal) row(id string) *litRow {
	for i := range l.rows {
		if l.rows[i].id == id && !l.hidden(&l.rows[i]) {
			return &l.rows[i]
		}
	}
	return nil
}

func (l *literal) meant(v litValue) (litValue, bool) {
	if v.kind != '$' {
		return v, true
	}
	x, ok := l.vars[v.s]
	return x, ok
}

func (l *literal) fits(v litValue, kinds string) bool {
	v, ok := l.meant(v)
	return ok && strings.IndexByte(kinds, v.kind) >= 0
}

func (l *literal) fragment(name string) *litFragment {
	i := slices.IndexFunc(l.fragments, func(f litFragment) bool { return f.name == name })
	if i < 0 {
		return nil
	}
	return &l.fragments[i]
}

func (l *literal) good(sels []*litSel, typ string) bool {
	for _, s := range sels {
		for _, c := range s.conds {
			if !l.fits(c.val, "tf") {
				return false
			}
		}
		if !l.goodOne(s, typ) {
			return false
		}
	}
	return l.agree(sels)
}

func (l *literal) goodOne(s *litSel, typ string) bool {
	switch s.kind {
	case 's':
		f := l.fragment(s.name)
		return f != nil && l.goodPart(f.sels, f.on, typ)
	case 'p':
		if s.on == "" {
			return l.goodPart(s.inner, typ, typ)
		}
		return l.goodPart(s.inner, s.on, typ)
	}
	if s.name == "__typename" || s.name == "__types" && typ == "Query" {
		return len(s.args) == 0 && !s.deep
	}
	if s.name == "__fields" && typ == "Query" {
		return len(s.args) == 1 && s.args[0].name == "type" && l.fits(s.args[0].val, "s") && !s.deep
	}
	f := l.schema.field(typ, s.name)
	if f == nil || !l.has(f.hide) || len(s.args) > 1 || f.arg == "id" && len(s.args) == 0 {
		return false
	}
	if len(s.args) == 1 && (s.args[0].name != f.arg || !l.fits(s.args[0].val, map[string]string{"id": "s", "first": "in"}[f.arg])) {
		return false
	}
	if litScalar(f.typ.innermost()) {
		return !s.deep
	}
	return s.deep && l.good(s.inner, f.typ.innermost())
}

func (l *literal) goodPart(sels []*litSel, on, typ string) bool {
	return l.schema.meet(on, typ) && l.good(sels, on)
}

// laidOpen tells fields, without a look at conditions and types.
func (l *literal) laidOpen(sels []*litSel) []*litSel {
	var list []*litSel
	for _, s := range sels {
		switch s.kind {
		case 'f':
			list = append(list, s)
		case 's':
			list = append(list, l.laidOpen(l.fragment(s.name).sels)...)
		case 'p':
			list = append(list, l.laidOpen(s.inner)...)
		}
	}
	return list
}

func (l *literal) agree(sels []*litSel) bool {
	fields := l.laidOpen(sels)
	for i, a := range fields {
		for _, b := range fields[i+1:] {
			if a.key == b.key && (a.name != b.name || l.told(a.args) != l.told(b.args) || !l.agree(append(slices.Clone(a.inner), b.inner...))) {
				return false
			}
		}
	}
	return true
}

func (l *literal) told(args []litArg) string {
	text := ""
	for _, a := range args {
		v, _ := l.meant(a.val)
		text += a.name + ":" + v.text() + ";"
	}
	return text
}

func (l *literal) of(object, typ string) bool {
	return typ == "" || slices.Contains(l.schema.objectsOf(typ), object)
}

// collect tells fields of one key as one, with their selections together.
func (l *literal) collect(object string, sels []*litSel) []*litSel {
	var list []*litSel
	for _, s := range l.applied(object, sels) {
		i := slices.IndexFunc(list, func(x *litSel) bool { return x.key == s.key })
		if i < 0 {
			one := *s
			list = append(list, &one)
		} else {
			list[i].inner = append(slices.Clone(list[i].inner), s.inner...)
		}
	}
	return list
}

func (l *literal) applied(object string, sels []*litSel) []*litSel {
	var list []*litSel
	for _, s := range sels {
		if slices.ContainsFunc(s.conds, func(c litArg) bool {
			v, _ := l.meant(c.val)
			return c.name == "skip" && v.kind == 't' || c.name == "include" && v.kind == 'f'
		}) {
			continue
		}
		switch f := l.fragment(s.name); {
		case s.kind == 'f':
			list = append(list, s)
		case s.kind == 's' && l.of(object, f.on):
			list = append(list, l.applied(object, f.sels)...)
		case s.kind == 'p' && l.of(object, s.on):
			list = append(list, l.applied(object, s.inner)...)
		}
	}
	return list
}

func (l *literal) fail(path []string) string {
	l.errors = append(l.errors, strings.Join(path, ","))
	return "null"
}

// object answers null if something in it may not be null and is.
func (l *literal) object(r *litRow, sels []*litSel, path []string) string {
	var parts []string
	breaks := false
	for _, s := range l.collect(r.typ, sels) {
		l.steps++
		below := append(slices.Clone(path), `"`+s.key+`"`)
		text, strict := l.fieldOf(r, s, below)
		breaks = breaks || strict && text == "null"
		parts = append(parts, `"`+s.key+`":`+text)
	}
	if breaks {
		return "null"
	}
	return "{" + strings.Join(parts, ",") + "}"
}

func quotedAll(list []string) string {
	if len(list) == 0 {
		return "[]"
	}
	return `["` + strings.Join(list, `","`) + `"]`
}

func (l *literal) fieldOf(r *litRow, s *litSel, path []string) (string, bool) {
	switch s.name {
	case "__typename":
		return `"` + r.typ + `"`, false
	case "__types":
		var list []string
		for _, d := range l.schema {
			list = append(list, d.name)
		}
		return quotedAll(list), false
	case "__fields":
		return l.fieldsOf(s), false
	}
	f := l.schema.field(r.typ, s.name)
	before := len(l.errors)
	text := l.content(r, f, s, path)
	if f.typ.strict && text == "null" && len(l.errors) == before {
		l.fail(path)
	}
	return text, f.typ.strict
}

func (l *literal) fieldsOf(s *litSel) string {
	v, _ := l.meant(s.args[0].val)
	d := l.schema.def(v.s)
	if d == nil || d.kind == "union" {
		return "null"
	}
	var list []string
	for _, f := range d.fields {
		if l.has(f.hide) {
			list = append(list, f.name)
		}
	}
	return quotedAll(list)
}

func (l *literal) content(r *litRow, f *litField, s *litSel, path []string) string {
	if !l.has(f.auth) {
		return l.fail(path)
	}
	var arg litValue
	if len(s.args) > 0 {
		arg, _ = l.meant(s.args[0].val)
	}
	if f.arg == "id" {
		target := l.row(arg.s)
		if target == nil || target.typ == "Query" || !l.of(target.typ, f.typ.name) {
			return l.fail(path)
		}
		return l.object(target, s.inner, path)
	}
	v, ok := r.cells[f.name]
	if !ok {
		return "null"
	}
	if v.kind == '[' && arg.kind == 'i' {
		v.items = v.items[:min(len(v.items), max(0, arg.n))]
	}
	return l.value(v, f.typ, s, path)
}

func (l *literal) value(v litValue, t *litType, s *litSel, path []string) string {
	switch v.kind {
	case '!':
		return l.fail(path)
	case '@':
		target := l.row(v.s)
		if target == nil {
			return l.fail(path)
		}
		return l.object(target, s.inner, path)
	case '[':
		return l.list(v.items, t.inner, s, path)
	}
	return v.text()
}

func (l *literal) list(items []litValue, t *litType, s *litSel, path []string) string {
	var parts []string
	breaks := false
	for i, item := range items {
		l.steps++
		below := append(slices.Clone(path), strconv.Itoa(i))
		before := len(l.errors)
		text := l.value(item, t, s, below)
		if t.strict && text == "null" {
			if len(l.errors) == before {
				l.fail(below)
			}
			breaks = true
		}
		parts = append(parts, text)
	}
	if breaks {
		return "null"
	}
	return "[" + strings.Join(parts, ",") + "]"
}

// text is how a value is written, in rows, in queries, and (if it is a scalar) in answers.
func (v litValue) text() string {
	switch v.kind {
	case 'n':
		return "null"
	case 'i':
		return strconv.Itoa(v.n)
	case 's', '@':
		text := `"` + strings.NewReplacer("\n", `\n`, `"`, `\"`).Replace(v.s) + `"`
		return strings.TrimPrefix(string(v.kind), "s") + text
	case 't':
		return "true"
	case 'f':
		return "false"
	case '$':
		return "$" + v.s
	case '[':
		var parts []string
		for _, x := range v.items {
			parts = append(parts, x.text())
		}
		return "[" + strings.Join(parts, " ") + "]"
	}
	return "!"
}

// answer tells the answer to a query of which nothing but its selections and its steps may be wrong.
func (l *literal) answer(sels []*litSel, budget int) string {
	if !l.good(sels, "Query") {
		return refused("selection")
	}
	query := l.row("")
	if query == nil {
		query = &litRow{typ: "Query"}
	}
	d := l.object(query, sels, nil)
	if l.steps > budget {
		return refused("budget")
	}
	return data(d, l.errors...)
}

package queries

import (
	"veil/token"
	"veil/value"
)

// Values are those of variables, by their names.
type Values map[string]value.Value

// ReadValues tells the values that a text gives, or false if it is wrongly written or gives one twice.
func ReadValues(text string) (Values, bool) {
	r := token.Read(text)
	values := Values{}
	if r.Done() {
		return values, true
	}
	r.Need(token.OpenBrace)
	for r.Sees(token.String) {
		values.take(r)
	}
	r.Need(token.CloseBrace)
	return values, r.Done()
}

// take takes a pair.
func (v Values) take(r *token.Reader) {
	name := r.Need(token.String).Text
	if _, ok := v[name]; ok {
		r.Fail()
	}
	r.Need(token.Colon)
	v[name] = value.Read(r)
}

// Bind puts values in the place of the variables, all over the query. It tells false if a variable of the operation is not right, or its value. What names no variable of the operation stays: as a value it fits nowhere.
func (q *Query) Bind(given Values) bool {
	values := Values{}
	for _, v := range q.Operations[0].Variables {
		if _, twice := values[v.Name]; twice || !v.right() {
			return false
		}
		values[v.Name] = v.value(given)
		if !values[v.Name].Fits(v.Scalar, v.Strict) {
			return false
		}
	}
	for _, p := range q.Parts {
		p.bind(values)
	}
	return true
}

func (v *Variable) right() bool {
	return value.IsScalar(v.Scalar) && (!v.HasDefault || v.Default.Fits(v.Scalar, v.Strict))
}

// value tells the variable's value: its default is null if there is none.
func (v *Variable) value(given Values) value.Value {
	if x, ok := given[v.Name]; ok {
		return x
	}
	return v.Default
}

func (p *Part) bind(values Values) {
	for _, s := range p.Selections {
		for i := range s.Arguments {
			values.replace(&s.Arguments[i].Value)
		}
		for i := range s.Conditions {
			values.replace(&s.Conditions[i].Value)
		}
	}
}

func (v Values) replace(x *value.Value) {
	if x.Kind != value.Variable {
		return
	}
	if meant, ok := v[x.Text]; ok {
		*x = meant
	}
}

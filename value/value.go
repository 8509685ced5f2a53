// Package value has the values that rules tell.
package value

import "veil/token"

// Kind says what a value is.
type Kind int

// Viewer stands for the id of whoever looks.
const (
	Null Kind = iota
	Number
	String
	True
	False
	Viewer
)

// Value is a value: Number and Text are what a number and a string tell.
type Value struct {
	Kind   Kind
	Number int
	Text   string
}

// Read takes a number, a string, `true`, `false` or `null`.
func Read(r *token.Reader) Value {
	t := r.Next()
	switch t.Kind {
	case token.Number:
		return Value{Kind: Number, Number: t.Number}
	case token.String:
		return Value{Kind: String, Text: t.Text}
	case token.Name:
		return word(r, t.Text)
	}
	r.Fail()
	return Value{}
}

func word(r *token.Reader, name string) Value {
	switch name {
	case "true":
		return Value{Kind: True}
	case "false":
		return Value{Kind: False}
	case "null":
		return Value{Kind: Null}
	}
	r.Fail()
	return Value{}
}

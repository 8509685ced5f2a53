package value

import (
	"testing"

	"veil/token"
)

func TestRead(t *testing.T) {
	for text, want := range map[string]Value{
		"7":     {Kind: Number, Number: 7},
		"-0":    {Kind: Number},
		"-12":   {Kind: Number, Number: -12},
		`"a\n"`: {Kind: String, Text: "a\n"},
		`""`:    {Kind: String},
		`"7"`:   {Kind: String, Text: "7"},
		"true":  {Kind: True},
		"false": {Kind: False},
		"null":  {Kind: Null},
	} {
		r := token.Read(text)
		if got := Read(r); got != want || !r.Done() {
			t.Errorf("%q is %v, want %v", text, got, want)
		}
	}
}

func TestReadWrong(t *testing.T) {
	for _, text := range []string{"", "viewer", "nil", "True", "!", "$a", "[", "...", `"a`, "1a"} {
		r := token.Read(text)
		if got := Read(r); got != (Value{}) || r.Done() {
			t.Errorf("%q is %v, want nothing", text, got)
		}
	}
}

func TestIsOf(t *testing.T) {
	scalars := []string{"Int", "String", "ID", "Boolean", "", "int", "Value"}
	for kind, want := range map[Kind]string{Null: "", Number: "Int ", String: "String ID ", True: "Boolean ", False: "Boolean ", Viewer: "", Reference: "", List: "", Fault: "", Variable: ""} {
		got := ""
		for _, s := range scalars {
			if (Value{Kind: kind}).IsOf(s) {
				got += s + " "
			}
		}
		if got != want {
			t.Errorf("kind %d is of %q, want %q", kind, got, want)
		}
	}
}

func TestIsScalar(t *testing.T) {
	for name, want := range map[string]bool{"Int": true, "String": true, "Boolean": true, "ID": true, "": false, "int": false, "Id": false, "Float": false, "Query": false} {
		if IsScalar(name) != want {
			t.Errorf("%q is a scalar: %v", name, !want)
		}
	}
}

func TestFits(t *testing.T) {
	for _, strict := range []bool{false, true} {
		if (Value{}).Fits("Int", strict) == strict {
			t.Errorf("null where it is strict %v: %v", strict, strict)
		}
		if !(Value{Kind: Number}).Fits("Int", strict) || (Value{Kind: Number}).Fits("ID", strict) || (Value{Kind: Variable}).Fits("Int", strict) {
			t.Errorf("numbers and variables do not fit as they should where it is strict %v", strict)
		}
	}
}

package value

import (
	"testing"

	"veil/token"
)

func TestRead(t *testing.T) {
	for text, want := range map[string]Value{
		"7":     {Kind: Number, Number: 7},
		"-0":    {Kind: Number},
		"-12":   {Kind: Number, Number: -12},
		`"a\n"`: {Kind: String, Text: "a\n"},
		`""`:    {Kind: String},
		`"7"`:   {Kind: String, Text: "7"},
		"true":  {Kind: True},
		"false": {Kind: False},
		"null":  {Kind: Null},
	} {
		r := token.Read(text)
		if got := Read(r); got != want || !r.Done() {
			t.Errorf("%q is %v, want %v", text, got, want)
		}
	}
}

func TestReadWrong(t *testing.T) {
	for _, text := range []string{"", "viewer", "nil", "True", "!", "$a", "[", "...", `"a`, "1a"} {
		r := token.Read(text)
		if got := Read(r); got != (Value{}) || r.Done() {
			t.Errorf("%q is %v, want nothing", text, got)
		}
	}
}

func TestIsOf(t *testing.T) {
	scalars := []string{"Int", "String", "ID", "Boolean", "", "int", "Value"}
	for kind, want := range map[Kind]string{Null: "", Number: "Int ", String: "String ID ", True: "Boolean ", False: "Boolean ", Viewer: "", Reference: "", List: "", Fault: ""} {
		got := ""
		for _, s := range scalars {
			if (Value{Kind: kind}).IsOf(s) {
				got += s + " "
			}
		}
		if got != want {
			t.Errorf("kind %d is of %q, want %q", kind, got, want)
		}
	}
}

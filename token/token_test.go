package token

import (
	"slices"
	"strings"
	"testing"

	"veil/api"
)

func name(s string) Token     { return Token{Kind: Name, Text: s} }
func num(n int) Token         { return Token{Kind: Number, Number: n} }
func str(s string) Token      { return Token{Kind: String, Text: s} }
func sign(k Kind) Token       { return Token{Kind: k} }
func list(l ...Token) []Token { return l }

func TestCut(t *testing.T) {
	for _, c := range []struct {
		text string
		want []Token
	}{
		{"", nil},
		{" \t\r\n,,", nil},
		{"#", nil},
		{"# \x00\xff \"\n# more", nil},
		{"a", list(name("a"))},
		{"_ __a A09z_ aZ Z", list(name("_"), name("__a"), name("A09z_"), name("aZ"), name("Z"))},
		{"a,b\tc\rd\ne#f\ng", list(name("a"), name("b"), name("c"), name("d"), name("e"), name("g"))},
		{"0 -0 7 -7 10 999999999 -999999999", list(num(0), num(0), num(7), num(-7), num(10), num(999999999), num(-999999999))},
		{"1-2 a-3", list(num(1), num(-2), name("a"), num(-3))},
		{`1"a"b"c"2`, list(num(1), str("a"), name("b"), str("c"), num(2))},
		{`"" " ~!#,"`, list(str(""), str(" ~!#,"))},
		{`"\"\\\n\t"`, list(str("\"\\\n\t"))},
		{`"a""b"`, list(str("a"), str("b"))},
		{"!$():=@[]{}|&...", list(sign(Bang), sign(Dollar), sign(Open), sign(Close), sign(Colon), sign(Equals), sign(At), sign(OpenList), sign(CloseList), sign(OpenBrace), sign(CloseBrace), sign(Bar), sign(And), sign(Spread))},
		{"......a", list(sign(Spread), sign(Spread), name("a"))},
	} {
		got, ok := Cut(c.text)
		if !ok || !slices.Equal(got, c.want) {
			t.Errorf("Cut(%q) = %v, %v, want %v", c.text, got, ok, c.want)
		}
	}
}

func TestCutWrong(t *testing.T) {
	for _, text := range []string{
		"-", "--1", "- 1", "-a", "-_", "01", "00", "-01", "-00", "1000000000", "-1000000000", "1a", "1_", "0x1", "9Z", "1.5", "5.", "1-2a-3",
		".", "..", "....", ". ..", `"`, `"a`, `"a\`, `"a\"`, `"\q"`, `"\u0041"`, `"\N"`, `"\ "`, "\"\t\"", "\"\n\"", "\"\x1f\"", "\"\x7f\"", "\"\x80\"", "\"\x00\"",
		"\x00", "\x01", "\x0b", "\x0c", "\x7f", "\x80", "\xff", "é", "\u00a0", "\ufeff", "a;", "*", "+", "/", "<", ">", "?", "%", "'a'", "`", "^", "~", `\`,
	} {
		if got, ok := Cut(text); ok || got != nil {
			t.Errorf("Cut(%q) = %v, %v, want nothing", text, got, ok)
		}
	}
}

func TestCutLimits(t *testing.T) {
	for _, c := range []struct {
		text string
		size int
		ok   bool
	}{
		{strings.Repeat(" ", api.MaxText), 0, true},
		{strings.Repeat(" ", api.MaxText+1), 0, false},
		{"#" + strings.Repeat("x", api.MaxText-1), 0, true},
		{"#" + strings.Repeat("x", api.MaxText), 0, false},
		{strings.Repeat("x", api.MaxText), 1, true},
		{strings.Repeat("x", api.MaxText+1), 0, false},
		{`"` + strings.Repeat("x", api.MaxText-2) + `"`, 1, true},
		{strings.Repeat("!", api.MaxTokens), api.MaxTokens, true},
		{strings.Repeat("!", api.MaxTokens) + " # !", api.MaxTokens, true},
		{strings.Repeat("!", api.MaxTokens+1), 0, false},
		{strings.Repeat("!", api.MaxTokens) + ";", 0, false},
	} {
		got, ok := Cut(c.text)
		if ok != c.ok || len(got) != c.size {
			t.Errorf("Cut(%.9q.., %d bytes): %d tokens, %v, want %d, %v", c.text, len(c.text), len(got), ok, c.size, c.ok)
		}
	}
}

func TestReader(t *testing.T) {
	r := Read("a b : 7 c")
	if r.AtEnd() || !r.SeesWord("a") || r.TakeWord("b") || !r.TakeWord("a") || r.NeedName() != "b" {
		t.Fatal("names are not read as they stand")
	}
	if r.Take(Bang) || !r.Take(Colon) || r.Need(Number).Number != 7 || r.Done() {
		t.Fatal("kinds are not read as they stand")
	}
	if r.NeedWord("c"); !r.Done() || !r.AtEnd() {
		t.Fatal("a text that is read whole is not done")
	}
	if r.Next() != (Token{}) || !r.Done() {
		t.Fatal("there is something behind the end")
	}
	if r.NeedName() != "" || r.Done() {
		t.Fatal("a name at the end")
	}
}

func TestReaderStaysFailed(t *testing.T) {
	for _, fail := range []func(r *Reader){
		func(r *Reader) { r.Fail() },
		func(r *Reader) { r.Need(Colon) },
		func(r *Reader) { r.NeedWord("b") },
	} {
		r := Read("a b")
		fail(r)
		if r.Done() || !r.AtEnd() || r.Peek() != (Token{}) || r.Next() != (Token{}) || r.TakeWord("a") || r.NeedName() != "" || r.Done() {
			t.Error("a reader goes on though it has failed")
		}
	}
	if r := Read("a ;"); r.Done() || !r.AtEnd() {
		t.Error("a text that can't be cut is read")
	}
}

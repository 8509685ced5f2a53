// Package token cuts texts into tokens, and goes through them.
package token

import (
	"strings"

	"veil/api"
)

// Kind says what a token is.
type Kind int

// End is what stands behind the last token. The kinds from Bang on are those of the signs, in their order.
const (
	End Kind = iota
	Name
	Number
	String
	Spread
	Bang
	Dollar
	Open
	Close
	Colon
	Equals
	At
	OpenList
	CloseList
	OpenBrace
	CloseBrace
	Bar
	And
)

const (
	signs     = "!$():=@[]{}|&"
	spread    = "..."
	maxDigits = 9
)

// Token is a piece of a text: Text is a name as it is written, or what a string says; Number is what a number tells. It shares no memory with the text, so that it may be kept.
type Token struct {
	Kind   Kind
	Text   string
	Number int
}

// Cut tells the tokens of a text, or false if it can't be cut into them.
func Cut(text string) ([]Token, bool) {
	if len(text) > api.MaxText {
		return nil, false
	}
	var tokens []Token
	for rest := skip(text); rest != ""; rest = skip(rest) {
		t, size := first(rest)
		if size == 0 || len(tokens) == api.MaxTokens {
			return nil, false
		}
		tokens = append(tokens, t)
		rest = rest[size:]
	}
	return tokens, true
}

// skip takes away what may stand ahead of a token.
func skip(text string) string {
	for text != "" {
		switch text[0] {
		case ' ', '\t', '\r', '\n', ',':
			text = text[1:]
		case '#':
			_, text, _ = strings.Cut(text, "\n")
		default:
			return text
		}
	}
	return text
}

// first tells the token at the start of a text that is not empty, and its size: 0 if there is none.
func first(text string) (Token, int) {
	c := text[0]
	switch {
	case isDigit(c) || c == '-':
		return number(text)
	case isWord(c):
		size := wordSize(text)
		return Token{Kind: Name, Text: strings.Clone(text[:size])}, size
	case c == '"':
		return quoted(text)
	case strings.HasPrefix(text, spread):
		return Token{Kind: Spread}, len(spread)
	}
	if i := strings.IndexByte(signs, c); i >= 0 {
		return Token{Kind: Bang + Kind(i)}, 1
	}
	return Token{}, 0
}

// number takes letters and `_` along with the digits, since none of them may stand behind a number.
func number(text string) (Token, int) {
	digits := strings.TrimPrefix(text, "-")
	digits = digits[:wordSize(digits)]
	if len(digits) == 0 || len(digits) > maxDigits || len(digits) > 1 && digits[0] == '0' {
		return Token{}, 0
	}
	n := 0
	for i := range len(digits) {
		if !isDigit(digits[i]) {
			return Token{}, 0
		}
		n = n*10 + int(digits[i]-'0')
	}
	if text[0] == '-' {
		return Token{Kind: Number, Number: -n}, len(digits) + 1
	}
	return Token{Kind: Number, Number: n}, len(digits)
}

func quoted(text string) (Token, int) {
	var said []byte
	for i := 1; i < len(text); i++ {
		c := text[i]
		if c == '"' {
			return Token{Kind: String, Text: string(said)}, i + 1
		}
		if c == '\\' {
			i++
			c = escaped(text[i:])
		} else if c < 32 || c > 126 {
			c = 0
		}
		if c == 0 {
			return Token{}, 0
		}
		said = append(said, c)
	}
	return Token{}, 0
}

// escaped tells what stands behind a `\`, or 0 if that may not stand there.
func escaped(text string) byte {
	if text == "" {
		return 0
	}
	switch text[0] {
	case '"', '\\':
		return text[0]
	case 'n':
		return '\n'
	case 't':
		return '\t'
	}
	return 0
}

func wordSize(text string) int {
	size := 0
	for size < len(text) && isWord(text[size]) {
		size++
	}
	return size
}

func isWord(c byte) bool {
	return isDigit(c) || c == '_' || 'a' <= c && c <= 'z' || 'A' <= c && c <= 'Z'
}

func isDigit(c byte) bool { return '0' <= c && c <= '9' }

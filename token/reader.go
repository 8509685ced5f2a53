package token

// Reader goes through the tokens of a text, as a form asks for them. Once something is not of the form, it stands at the end for good: whoever reads on need not ask for that, and no loop goes on.
type Reader struct {
	tokens []Token
	failed bool
}

// Read makes a reader of a text. It has failed already if the text can't be cut.
func Read(text string) *Reader {
	tokens, ok := Cut(text)
	return &Reader{tokens: tokens, failed: !ok}
}

// Fail says that the text is not of the form.
func (r *Reader) Fail() {
	r.tokens = nil
	r.failed = true
}

// Done tells whether all of the text was of the form.
func (r *Reader) Done() bool { return r.AtEnd() && !r.failed }

// AtEnd tells whether there is nothing more to read.
func (r *Reader) AtEnd() bool { return len(r.tokens) == 0 }

// Peek tells the next token and leaves it there.
func (r *Reader) Peek() Token {
	if r.AtEnd() {
		return Token{}
	}
	return r.tokens[0]
}

// Next takes the next token, whatever it is.
func (r *Reader) Next() Token {
	t := r.Peek()
	if !r.AtEnd() {
		r.tokens = r.tokens[1:]
	}
	return t
}

// Sees tells whether the next token is of this kind.
func (r *Reader) Sees(k Kind) bool { return r.Peek().Kind == k }

// SeesWord tells whether the next token is this name.
func (r *Reader) SeesWord(word string) bool {
	t := r.Peek()
	return t.Kind == Name && t.Text == word
}

// Take takes the next token if it is of this kind, and tells whether it was.
func (r *Reader) Take(k Kind) bool {
	if !r.Sees(k) {
		return false
	}
	r.Next()
	return true
}

// TakeWord takes the next token if it is this name, and tells whether it was.
func (r *Reader) TakeWord(word string) bool {
	if !r.SeesWord(word) {
		return false
	}
	r.Next()
	return true
}

// Need takes the next token, and fails if it is not of this kind.
func (r *Reader) Need(k Kind) Token {
	if !r.Sees(k) {
		r.Fail()
		return Token{}
	}
	return r.Next()
}

// NeedName takes a name.
func (r *Reader) NeedName() string { return r.Need(Name).Text }

// NeedWord takes just this name.
func (r *Reader) NeedWord(word string) {
	if !r.TakeWord(word) {
		r.Fail()
	}
}

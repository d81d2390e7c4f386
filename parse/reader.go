package parse

import (
	"slices"

	"touchstone/api"
	"touchstone/lex"
)

// fault is what is thrown where a text is wrong.
type fault struct {
	at  int
	err api.Errno
}

// reader takes the tokens of a text, one after the other. What it can't take, it throws as a fault.
type reader struct {
	tokens []lex.Token
	next   int
	end    int
}

// done tells whether all tokens are taken.
func (r *reader) done() bool {
	return r.next == len(r.tokens)
}

// place returns the offset of the next token, or the text's length if there is none.
func (r *reader) place() int {
	if r.done() {
		return r.end
	}
	return r.tokens[r.next].At
}

// take returns the next token, of which there must be one.
func (r *reader) take() lex.Token {
	if r.done() {
		panic(fault{at: r.end, err: api.ErrEnd})
	}
	token := r.tokens[r.next]
	r.next++
	return token
}

// permit throws the token as one that may not stand where it does, unless it fits.
func permit(token lex.Token, fits bool) {
	if !fits {
		panic(fault{at: token.At, err: api.ErrForm})
	}
}

// follow takes tokens that must follow one another.
func (r *reader) follow(texts ...string) {
	for _, text := range texts {
		token := r.take()
		permit(token, token.Text == text)
	}
}

// choose takes a token that must be one of some, and returns its text.
func (r *reader) choose(texts ...string) string {
	token := r.take()
	permit(token, slices.Contains(texts, token.Text))
	return token.Text
}

// skip takes a token that may be left out, and tells whether it was there.
func (r *reader) skip(text string) bool {
	if r.done() || r.tokens[r.next].Text != text {
		return false
	}
	r.next++
	return true
}

// name takes a name that is not a keyword.
func (r *reader) name() string {
	token := r.take()
	permit(token, isName(token))
	return token.Text
}

func isName(token lex.Token) bool {
	return token.Kind == lex.Name && !isKeyword(token.Text)
}

func isKeyword(text string) bool {
	switch text {
	case "array", "bool", "constraint", "false", "int", "maximize", "minimize", "of",
		"output_array", "output_var", "satisfy", "solve", "true", "var":
		return true
	}
	return false
}

// number takes a number.
func (r *reader) number() int64 {
	token := r.take()
	permit(token, token.Kind == lex.Number)
	return token.Value
}

// span takes a range in brackets that must begin with 1, and returns the number that it ends with.
func (r *reader) span() int64 {
	r.follow("[")
	r.exactly(1)
	r.follow("..")
	last := r.number()
	r.follow("]")
	return last
}

// exactly takes a number that must be n.
func (r *reader) exactly(n int64) {
	token := r.take()
	permit(token, token.Kind == lex.Number && token.Value == n)
}

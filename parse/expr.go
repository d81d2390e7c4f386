package parse

import (
	"touchstone/api"
	"touchstone/lex"
)

// series reads at least one and at most so many elements, with commas between them, and the sign
// behind them.
func series[E any](r *reader, closing string, most int, element func() E) []E {
	var l []E
	for {
		// Only behind a comma can there be as many already: the next one is too many, whatever it is.
		if len(l) == most {
			panic(fault{at: r.place(), err: api.ErrBig})
		}
		l = append(l, element())
		if r.choose(",", closing) == closing {
			return l
		}
	}
}

// exprs reads the expressions up to a closing sign, of which there may be none.
func (r *reader) exprs(closing string, element func() Expr) []Expr {
	if r.skip(closing) {
		return nil
	}
	return series(r, closing, api.MaxTable, element)
}

// list reads the elements of a list, and the brackets around them.
func (r *reader) list() []Expr {
	r.follow("[")
	return r.exprs("]", r.plain)
}

// expr reads a plain expression or a list.
func (r *reader) expr() Expr {
	if !r.done() && r.tokens[r.next].Text == "[" {
		return Expr{Kind: List, L: r.list()}
	}
	return r.plain()
}

// plain reads an expression that is not a list.
func (r *reader) plain() Expr {
	token := r.take()
	switch {
	case token.Kind == lex.Number:
		return Expr{Kind: Num, N: token.Value}
	case token.Text == "true":
		return Expr{Kind: Bool, N: 1}
	case token.Text == "false":
		return Expr{Kind: Bool}
	}
	permit(token, isName(token))
	return Expr{Kind: Ref, S: token.Text}
}

package show

import (
	"strconv"
	"strings"

	"touchstone/api"
	"touchstone/parse"
)

// page is a text that is being written. It takes no more than can be parsed, so that even a list
// that holds itself comes to an end.
type page struct {
	text strings.Builder
	full bool
}

// write adds parts, unless one of them no longer finds room.
func (p *page) write(parts ...string) {
	for _, part := range parts {
		if len(part) > api.MaxText-p.text.Len() {
			p.full = true
		}
		if p.full {
			return
		}
		p.text.WriteString(part)
	}
}

// itemText returns the text of an item, or an empty one if it is too long. What has no text, such
// as an expression of no known kind, is left out: the parser then finds something else than x.
func itemText(x parse.Item) string {
	var p page
	p.item(x)
	if p.full {
		return ""
	}
	return p.text.String()
}

func (p *page) item(x parse.Item) {
	switch x.Kind {
	case parse.Par:
		p.write(typeName(x.Bool), ": ", x.Name, " = ")
		p.exprs(x.Vals)
	case parse.Var:
		p.variable(x)
	case parse.ParArray:
		p.array(x, "")
	case parse.VarArray:
		p.array(x, "var ")
	case parse.Constraint:
		p.write("constraint ", x.Name, "(")
		p.exprs(x.Vals)
		p.write(")")
	case parse.Solve:
		p.request(x)
	}
	p.write(";")
}

func typeName(truth bool) string {
	if truth {
		return "bool"
	}
	return "int"
}

func (p *page) variable(x parse.Item) {
	p.write("var ")
	if x.Bool {
		p.write("bool")
	} else {
		p.domain(x.Dom)
	}
	p.write(": ", x.Name)
	if x.Out {
		p.write(" :: output_var")
	}
	if len(x.Vals) > 0 {
		p.write(" = ")
		p.exprs(x.Vals)
	}
}

func (p *page) domain(l []api.Range) {
	if len(l) == 1 {
		p.write(number(l[0].Lo), "..", number(l[0].Hi))
		return
	}
	p.write("{")
	for i, r := range l {
		if p.full {
			return
		}
		// A range of more than one number can't be written here; the parser finds another one.
		p.write(separator(i), number(r.Lo))
	}
	p.write("}")
}

func (p *page) array(x parse.Item, variables string) {
	span := "[1.." + number(x.Size) + "]"
	p.write("array ", span, " of ", variables, typeName(x.Bool), ": ", x.Name)
	if x.Out {
		p.write(" :: output_array(", span, ")")
	}
	p.write(" = [")
	p.exprs(x.Vals)
	p.write("]")
}

func (p *page) request(x parse.Item) {
	p.write("solve ")
	switch x.Ask {
	case api.Satisfy:
		p.write("satisfy")
	case api.Minimize:
		p.write("minimize ", x.Name)
	case api.Maximize:
		p.write("maximize ", x.Name)
	}
}

// exprs writes expressions with commas between them.
func (p *page) exprs(l []parse.Expr) {
	for i, x := range l {
		if p.full {
			return
		}
		p.write(separator(i))
		p.expr(x)
	}
}

func (p *page) expr(x parse.Expr) {
	switch x.Kind {
	case parse.Num:
		p.write(number(x.N))
	case parse.Bool:
		p.write(truthName(x.N))
	case parse.Ref:
		p.write(x.S)
	case parse.List:
		p.write("[")
		p.exprs(x.L)
		p.write("]")
	}
}

func truthName(n int64) string {
	if n == 1 {
		return "true"
	}
	return "false"
}

func number(n int64) string {
	return strconv.FormatInt(n, 10)
}

// separator is what stands before the element at an index.
func separator(i int) string {
	if i == 0 {
		return ""
	}
	return ", "
}

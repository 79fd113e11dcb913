package parse

import (
	"triggerstore/api"
	"triggerstore/syntax"
	"triggerstore/value"
)

// Precedences, as syntax.Precedence returns them.
const (
	loosest    = 1 // every expression has at least this one
	comparison = 4 // that of comparisons, IS NULL and BETWEEN
	tightest   = 8 // that of an operand without operators, which parentheses make of every expression
)

var operators = [...]string{
	api.OpOr: "OR", api.OpAnd: "AND",
	api.OpEq: "=", api.OpNe: "<>", api.OpLt: "<", api.OpLe: "<=", api.OpGt: ">", api.OpGe: ">=",
	api.OpAdd: "+", api.OpSub: "-", api.OpMul: "*", api.OpDiv: "/", api.OpMod: "%",
}

func (p *parser) expression() api.Expr {
	return p.argument(loosest)
}

// argument reads an expression at a place with a least precedence, as far as it can belong to that place.
func (p *parser) argument(least int) api.Expr {
	e, binds := p.operand(least)
operators:
	for {
		o := p.operator()
		own := syntax.Precedence(o)
		switch {
		case o.Kind == 0 || own < least || binds < leastBefore(own):
			break operators
		case o.Kind == api.ExprIsNull:
			e = p.isNull(e)
		case o.Kind == api.ExprBetween:
			e = p.between(e)
		default:
			p.expect(operators[o.Op])
			o.Args = []api.Expr{e, p.argument(own + 1)}
			e = o
		}
		binds = own
	}
	return e
}

// operator returns the kind of expression, with an operator but without arguments, that the next token makes of the operand before it, or the zero expression if it makes none.
func (p *parser) operator() api.Expr {
	switch {
	case p.sees("IS"):
		return api.Expr{Kind: api.ExprIsNull}
	case p.sees("BETWEEN"):
		return api.Expr{Kind: api.ExprBetween}
	}
	for op, text := range operators {
		if p.sees(text) {
			return api.Expr{Kind: api.ExprBinary, Op: op}
		}
	}
	return api.Expr{}
}

// leastBefore returns the least precedence before an operator that has its own one. Operators group from the left, but for comparisons, which do not follow one another.
func leastBefore(own int) int {
	if own == comparison {
		return comparison + 1
	}
	return own
}

// isNull reads what makes a test of an operand.
func (p *parser) isNull(e api.Expr) api.Expr {
	p.expect("IS")
	not := p.accept("NOT")
	p.expect("NULL")
	return api.Expr{Kind: api.ExprIsNull, Not: not, Args: []api.Expr{e}}
}

// between reads the limits of an operand. The AND between them cannot belong to the lower one, which binds more tightly.
func (p *parser) between(e api.Expr) api.Expr {
	p.expect("BETWEEN")
	low := p.argument(comparison + 1)
	p.expect("AND")
	return api.Expr{Kind: api.ExprBetween, Args: []api.Expr{e, low, p.argument(comparison + 1)}}
}

// operand reads what is before an operator, and returns it with its precedence.
func (p *parser) operand(least int) (api.Expr, int) {
	switch {
	case p.sees("NOT"):
		return p.prefixed("NOT", api.ExprNot, least)
	case p.sees("-"):
		return p.prefixed("-", api.ExprNegate, least)
	}
	return p.primary(), tightest
}

// prefixed reads an expression of a kind whose operator is before its argument.
func (p *parser) prefixed(text string, kind, least int) (api.Expr, int) {
	e := api.Expr{Kind: kind}
	own := syntax.Precedence(e)
	if own < least {
		panic(api.ErrSyntax)
	}
	p.open(text)
	e.Args = []api.Expr{p.argument(own)}
	p.close()
	return e, own
}

// primary reads an expression that is not made by an operator outside parentheses.
func (p *parser) primary() api.Expr {
	switch p.peek().Kind {
	case api.TokenName:
		return p.column()
	case api.TokenNumber:
		return literal(value.Number(p.number()))
	case api.TokenText:
		v, _ := value.Words(p.take(api.TokenText)) // such a token is a valid text
		return literal(v)
	case api.TokenWord:
		return p.primaryWord()
	}
	return enclosed(p, p.inside)
}

// primaryWord reads a primary that begins with a keyword.
func (p *parser) primaryWord() api.Expr {
	switch {
	case p.accept("NULL"):
		return literal(api.Value{})
	case p.accept("FALSE"):
		return literal(value.Truth(false))
	case p.accept("TRUE"):
		return literal(value.Truth(true))
	case p.accept("EXISTS"):
		return enclosed(p, p.exists)
	}
	rows := []string{"NEW", "OLD", "INSERTED", "DELETED"}
	return p.columnOf(rows[p.choose(rows...)])
}

func literal(v api.Value) api.Expr {
	return api.Expr{Kind: api.ExprLiteral, Value: v}
}

// column reads a column that begins with a name, its own or that of its table.
func (p *parser) column() api.Expr {
	name := p.name()
	if p.sees(".") {
		return p.columnOf(name)
	}
	return api.Expr{Kind: api.ExprColumn, Name: name}
}

// columnOf reads a column behind its qualifier.
func (p *parser) columnOf(qualifier string) api.Expr {
	p.expect(".")
	return api.Expr{Kind: api.ExprColumn, Table: qualifier, Name: p.name()}
}

// inside reads what is in the parentheses of an operand.
func (p *parser) inside() api.Expr {
	if p.sees("SELECT") {
		return p.aggregate()
	}
	return p.expression()
}

func (p *parser) exists() api.Expr {
	p.expect("SELECT", "*")
	return p.over(api.ExprExists, api.Query{Star: true})
}

func (p *parser) aggregate() api.Expr {
	p.expect("SELECT")
	kind := [...]int{api.ExprCount, api.ExprSum, api.ExprMin, api.ExprMax}[p.choose("COUNT", "SUM", "MIN", "MAX")]
	items := p.item
	if kind == api.ExprCount {
		items = p.noItem
	}
	return p.over(kind, api.Query{Items: enclosed(p, items)})
}

func (p *parser) item() []api.Expr {
	return []api.Expr{p.expression()}
}

// noItem reads the asterisk that COUNT has in the place of an item.
func (p *parser) noItem() []api.Expr {
	p.expect("*")
	return nil
}

// over reads what the query of an expression reads, and returns the expression.
func (p *parser) over(kind int, q api.Query) api.Expr {
	return api.Expr{Kind: kind, Sub: []api.Query{p.from(q)}}
}

// from reads the rest of a query behind its items.
func (p *parser) from(q api.Query) api.Query {
	p.expect("FROM")
	q.From = p.source()
	q.Where = p.where()
	return q
}

// source reads the name of what a query reads.
func (p *parser) source() string {
	if p.sees("INSERTED") || p.sees("DELETED") {
		return p.take(api.TokenWord)
	}
	return p.name()
}

func (p *parser) where() []api.Expr {
	return optional(p, "WHERE", p.expression)
}

func (p *parser) expressions() []api.Expr {
	return list(p, p.expression)
}

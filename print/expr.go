package print

import (
	"triggerstore/api"
	"triggerstore/syntax"
	"triggerstore/value"
)

var operators = [...]string{
	api.OpOr:  "OR",
	api.OpAnd: "AND",
	api.OpEq:  "=",
	api.OpNe:  "<>",
	api.OpLt:  "<",
	api.OpLe:  "<=",
	api.OpGt:  ">",
	api.OpGe:  ">=",
	api.OpAdd: "+",
	api.OpSub: "-",
	api.OpMul: "*",
	api.OpDiv: "/",
	api.OpMod: "%",
}

// comparison is the precedence of comparisons, IS NULL and BETWEEN.
const comparison = 4

func (w *writer) expr(e api.Expr) {
	switch e.Kind {
	case api.ExprLiteral:
		w.put(value.Format(e.Value))
	case api.ExprColumn:
		w.column(e.Table, e.Name)
	case api.ExprNot:
		w.put("NOT")
		w.arg(e, 0)
	case api.ExprNegate:
		w.put("-")
		w.arg(e, 0)
	case api.ExprBinary:
		w.arg(e, 0)
		w.put(operators[e.Op])
		w.arg(e, 1)
	case api.ExprIsNull:
		w.arg(e, 0)
		w.isNull(e.Not)
	case api.ExprBetween:
		w.arg(e, 0)
		w.put("BETWEEN")
		w.arg(e, 1)
		w.put("AND")
		w.arg(e, 2)
	default:
		w.subquery(e.Kind, e.Sub[0])
	}
}

// column writes the name of a column, with a qualifier unless that is empty.
func (w *writer) column(qualifier, name string) {
	if qualifier != "" {
		w.put(qualifier, ".")
	}
	w.put(name)
}

func (w *writer) isNull(not bool) {
	w.put("IS")
	if not {
		w.put("NOT")
	}
	w.put("NULL")
}

// arg writes the argument of e at a place, in parentheses if it needs them there.
func (w *writer) arg(e api.Expr, place int) {
	if inParentheses(e, place) {
		w.enclosed(e.Args[place])
	} else {
		w.expr(e.Args[place])
	}
}

func (w *writer) enclosed(e api.Expr) {
	w.put("(")
	w.expr(e)
	w.put(")")
}

// inParentheses reports whether the argument of e at a place binds less tightly than it has to. An operator groups from the left, so that only its first argument may bind as loosely as itself; comparisons, IS NULL and BETWEEN do not follow one another, so that none of theirs may.
func inParentheses(e api.Expr, place int) bool {
	least := syntax.Precedence(e)
	if place > 0 || least == comparison {
		least++
	}
	return syntax.Precedence(e.Args[place]) < least
}

// subquery writes an expression of a kind with a query.
func (w *writer) subquery(kind int, q api.Query) {
	if kind == api.ExprExists {
		w.put("EXISTS")
	}
	w.put("(", "SELECT")
	switch kind {
	case api.ExprExists:
		w.put("*")
	case api.ExprCount:
		w.put("COUNT", "(", "*", ")")
	case api.ExprSum:
		w.put("SUM")
		w.enclosed(q.Items[0])
	case api.ExprMin:
		w.put("MIN")
		w.enclosed(q.Items[0])
	case api.ExprMax:
		w.put("MAX")
		w.enclosed(q.Items[0])
	}
	w.from(q)
	w.put(")")
}

// from writes what a query reads.
func (w *writer) from(q api.Query) {
	w.put("FROM", q.From)
	w.where(q.Where)
}

func (w *writer) where(condition []api.Expr) {
	for _, e := range condition { // there is at most one
		w.put("WHERE")
		w.expr(e)
	}
}

func (w *writer) exprs(l []api.Expr) {
	for i, e := range l {
		w.comma(i)
		w.expr(e)
	}
}

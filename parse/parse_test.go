package parse

import (
	"math"
	"reflect"
	"strings"
	"testing"

	"triggerstore/api"
)

func number(n int64) api.Expr { return literal(api.Value{Kind: api.Int, Int: n}) }

func words(s string) api.Expr { return literal(api.Value{Kind: api.Text, Text: s}) }

func truth(n int64) api.Expr { return literal(api.Value{Kind: api.Bool, Int: n}) }

// column returns a column, with a qualifier if its name has a period.
func column(name string) api.Expr {
	qualifier, own, found := strings.Cut(name, ".")
	if !found {
		return api.Expr{Kind: api.ExprColumn, Name: name}
	}
	return api.Expr{Kind: api.ExprColumn, Table: qualifier, Name: own}
}

// with returns an expression of a kind with arguments.
func with(kind int, args ...api.Expr) api.Expr { return api.Expr{Kind: kind, Args: args} }

func not(e api.Expr) api.Expr { return with(api.ExprNot, e) }

func negate(e api.Expr) api.Expr { return with(api.ExprNegate, e) }

func isNull(e api.Expr) api.Expr { return with(api.ExprIsNull, e) }

func isNotNull(e api.Expr) api.Expr {
	return api.Expr{Kind: api.ExprIsNull, Not: true, Args: []api.Expr{e}}
}

func between(a, b, c api.Expr) api.Expr { return with(api.ExprBetween, a, b, c) }

func join(op int, a, b api.Expr) api.Expr {
	return api.Expr{Kind: api.ExprBinary, Op: op, Args: []api.Expr{a, b}}
}

// over returns an expression of a kind with a query.
func over(kind int, q api.Query) api.Expr { return api.Expr{Kind: kind, Sub: []api.Query{q}} }

// items returns a query of t with items, all one of all columns.
func items(l ...api.Expr) api.Query { return api.Query{From: "t", Items: l} }

func all(where ...api.Expr) api.Query { return api.Query{Star: true, From: "t", Where: where} }

var (
	a, b, c, d = column("a"), column("b"), column("c"), column("d")
	// long is a name with the most bytes.
	long = strings.Repeat("z", api.MaxName)
)

// parsed is a text with its tree.
type parsed[T any] struct {
	text string
	want T
}

func expectTrees[T any](t *testing.T, f func(string) (T, int, api.Errno), l ...parsed[T]) {
	t.Helper()
	for _, x := range l {
		if got, at, code := f(x.text); !reflect.DeepEqual(got, x.want) || at != 0 || code != api.OK {
			t.Errorf("%q: %+v, %d, %d, want %+v", x.text, got, at, code, x.want)
		}
	}
}

func expectExprs(t *testing.T, l ...parsed[api.Expr]) {
	t.Helper()
	expectTrees(t, Expr, l...)
}

func expectStatements(t *testing.T, l ...parsed[api.Statement]) {
	t.Helper()
	expectTrees(t, Statement, l...)
}

// P13.1: literals, with the greatest number, and texts that look like other tokens.
func TestLiterals(t *testing.T) {
	expectExprs(t, []parsed[api.Expr]{
		{"NULL", literal(api.Value{})},
		{"0", number(0)},
		{"120", number(120)},
		{"9223372036854775807", number(math.MaxInt64)},
		{"FALSE", truth(0)},
		{"TRUE", truth(1)},
		{"''", words("")},
		{"'it''s'", words("it's")},
		{"' a  b '", words(" a  b ")},
		{"'NULL'", words("NULL")},
		{"'NOT'", words("NOT")},
		{"'('", words("(")},
		{"'-'", words("-")},
		{"'a'", words("a")},
		{"'1'", words("1")},
		{"'" + strings.Repeat("~", api.MaxBytes) + "'", words(strings.Repeat("~", api.MaxBytes))},
	}...)
}

// P13.1: columns without and with each qualifier.
func TestColumns(t *testing.T) {
	for _, name := range []string{"a", long, "t.a", long + "." + long, "NEW.a", "OLD.a", "INSERTED.a", "DELETED.a"} {
		expectExprs(t, parsed[api.Expr]{name, column(name)}, parsed[api.Expr]{strings.ReplaceAll(name, ".", " .\n"), column(name)})
	}
}

// symbols has the operators by their numbers.
var symbols = []string{"", "OR", "AND", "=", "<>", "<", "<=", ">", ">=", "+", "-", "*", "/", "%"}

// ranks has the precedences of the operators by their numbers, as P11.6 lists them.
var ranks = []int{0, 1, 2, 4, 4, 4, 4, 4, 4, 5, 5, 6, 6, 6}

// P13.1: operators of one precedence group from the left, others as they bind; comparisons do not follow one another.
func TestOperators(t *testing.T) {
	for first := api.OpOr; first <= api.OpMod; first++ {
		start := "a " + symbols[first] + " b "
		expectExprs(t, parsed[api.Expr]{start, join(first, a, b)})
		for second := api.OpOr; second <= api.OpMod; second++ {
			text := start + symbols[second] + " c"
			switch {
			case ranks[first] == 4 && ranks[second] == 4:
				expectError(t, Expr, text, len(start), api.ErrSyntax)
			case ranks[second] > ranks[first]:
				expectExprs(t, parsed[api.Expr]{text, join(first, a, join(second, b, c))})
			default:
				expectExprs(t, parsed[api.Expr]{text, join(second, join(first, a, b), c)})
			}
			expectExprs(t, parsed[api.Expr]{"(" + start + ")" + symbols[second] + " c", join(second, join(first, a, b), c)},
				parsed[api.Expr]{"a " + symbols[first] + " (b " + symbols[second] + " c)", join(first, a, join(second, b, c))})
		}
	}
	expectExprs(t, []parsed[api.Expr]{
		{"a - b - c - d", join(api.OpSub, join(api.OpSub, join(api.OpSub, a, b), c), d)},
		{"a - b * c - d", join(api.OpSub, join(api.OpSub, a, join(api.OpMul, b, c)), d)},
		{"a OR b AND c = d OR a", join(api.OpOr, join(api.OpOr, a, join(api.OpAnd, b, join(api.OpEq, c, d))), a)},
		{"a < b AND c < d", join(api.OpAnd, join(api.OpLt, a, b), join(api.OpLt, c, d))},
		{"(a < b) = (c < d)", join(api.OpEq, join(api.OpLt, a, b), join(api.OpLt, c, d))},
	}...)
}

// P13.1: NOT and the minus sign, once and repeated, beside operators of each precedence.
func TestPrefixes(t *testing.T) {
	expectExprs(t, []parsed[api.Expr]{
		{"NOT a", not(a)},
		{"NOT NOT NOT a", not(not(not(a)))},
		{"- 5", negate(number(5))},
		{"--a", negate(negate(a))},
		{"a - - - b", join(api.OpSub, a, negate(negate(b)))},
		{"NOT - a", not(negate(a))},
		{"- (NOT a)", negate(not(a))},
		{"NOT a OR b", join(api.OpOr, not(a), b)},
		{"NOT a AND b", join(api.OpAnd, not(a), b)},
		{"a AND NOT b AND NOT c", join(api.OpAnd, join(api.OpAnd, a, not(b)), not(c))},
		{"a OR NOT b OR c", join(api.OpOr, join(api.OpOr, a, not(b)), c)},
		{"NOT a = b", not(join(api.OpEq, a, b))},
		{"NOT a IS NULL", not(isNull(a))},
		{"NOT a BETWEEN b AND c AND d", join(api.OpAnd, not(between(a, b, c)), d)},
		{"NOT a + b", not(join(api.OpAdd, a, b))},
		{"(NOT a) = b", join(api.OpEq, not(a), b)},
		{"a = (NOT b)", join(api.OpEq, a, not(b))},
		{"- a + b", join(api.OpAdd, negate(a), b)},
		{"- a * b", join(api.OpMul, negate(a), b)},
		{"- (a * b)", negate(join(api.OpMul, a, b))},
		{"a * - b % c", join(api.OpMod, join(api.OpMul, a, negate(b)), c)},
		{"- a = - b", join(api.OpEq, negate(a), negate(b))},
		{"- a.b IS NULL", isNull(negate(column("a.b")))},
	}...)
}

// P13.1: IS NULL and BETWEEN, whose AND is not the operator.
func TestTests(t *testing.T) {
	expectExprs(t, []parsed[api.Expr]{
		{"a IS NULL", isNull(a)},
		{"a IS NOT NULL", isNotNull(a)},
		{"a + b IS NULL", isNull(join(api.OpAdd, a, b))},
		{"a IS NULL AND b IS NOT NULL", join(api.OpAnd, isNull(a), isNotNull(b))},
		{"(a IS NULL) IS NOT NULL", isNotNull(isNull(a))},
		{"NULL IS NULL", isNull(literal(api.Value{}))},
		{"a BETWEEN b AND c", between(a, b, c)},
		{"a BETWEEN b AND c AND d", join(api.OpAnd, between(a, b, c), d)},
		{"a AND b BETWEEN c AND d", join(api.OpAnd, a, between(b, c, d))},
		{"a BETWEEN b AND c AND b BETWEEN c AND d", join(api.OpAnd, between(a, b, c), between(b, c, d))},
		{"a + 1 BETWEEN - b AND c * 2", between(join(api.OpAdd, a, number(1)), negate(b), join(api.OpMul, c, number(2)))},
		{"a BETWEEN (b AND c) AND (c OR d)", between(a, join(api.OpAnd, b, c), join(api.OpOr, c, d))},
		{"a BETWEEN (b BETWEEN c AND d) AND c", between(a, between(b, c, d), c)},
		{"(a = b) BETWEEN (c IS NULL) AND d", between(join(api.OpEq, a, b), isNull(c), d)},
	}...)
}

// P13.1: queries in expressions; behind a parenthesis of an operand, SELECT begins one with an aggregate.
func TestSubqueries(t *testing.T) {
	inserted := api.Query{Star: true, From: "INSERTED", Where: []api.Expr{join(api.OpOr, a, b)}}
	counted := api.Query{From: "DELETED", Where: []api.Expr{a}}
	lowest := api.Query{From: "t", Items: []api.Expr{join(api.OpAdd, a, b)}, Where: []api.Expr{not(c)}}
	expectExprs(t, []parsed[api.Expr]{
		{"EXISTS (SELECT * FROM t)", over(api.ExprExists, all())},
		{"EXISTS(SELECT*FROM INSERTED WHERE a OR b)", over(api.ExprExists, inserted)},
		{"(SELECT COUNT (*) FROM t)", over(api.ExprCount, items())},
		{"(SELECT COUNT(*)FROM DELETED WHERE a)", over(api.ExprCount, counted)},
		{"(SELECT SUM (a) FROM t)", over(api.ExprSum, items(a))},
		{"(SELECT MIN (a + b) FROM t WHERE NOT c)", over(api.ExprMin, lowest)},
		{"(SELECT MAX ((t.a)) FROM t)", over(api.ExprMax, items(column("t.a")))},
		{"((SELECT COUNT (*) FROM t))", over(api.ExprCount, items())},
		{"NOT EXISTS (SELECT * FROM t WHERE EXISTS (SELECT * FROM t))", not(over(api.ExprExists, all(over(api.ExprExists, all()))))},
		{"- (SELECT MAX ((SELECT SUM (a) FROM t)) FROM t) * 2", join(api.OpMul, negate(over(api.ExprMax, items(over(api.ExprSum, items(a))))), number(2))},
		{"EXISTS (SELECT * FROM t) AND (EXISTS (SELECT * FROM t))", join(api.OpAnd, over(api.ExprExists, all()), over(api.ExprExists, all()))},
	}...)
}

// P13.1: spaces do not matter, nor do parentheses that an expression does not need, wherever it is.
func TestSpacesAndParentheses(t *testing.T) {
	sum := join(api.OpMul, join(api.OpAdd, a, b), c)
	for _, text := range []string{"(a + b) * c", "(a+b)*c", "\n\t( a\n+\tb )\n* c \n", "((a + b)) * c", "((a)+(b))*(c)", "(((a + b) * c))"} {
		expectExprs(t, parsed[api.Expr]{text, sum})
	}
	expectExprs(t, []parsed[api.Expr]{
		{"(a)IS\nNULL", isNull(a)},
		{"NOT(a)", not(a)},
		{"-(5)", negate(number(5))},
		{"(1)", number(1)},
		{"(a)BETWEEN(b)AND(c)", between(a, b, c)},
		{"(SELECT SUM(((a)))FROM t WHERE((b)))", over(api.ExprSum, api.Query{From: "t", Items: []api.Expr{a}, Where: []api.Expr{b}})},
		{"a<-1", join(api.OpLt, a, negate(number(1)))},
	}...)
	expectStatements(t, []parsed[api.Statement]{
		{"\nSELECT(a),(b)FROM t WHERE(c)", selection(api.Query{From: "t", Items: []api.Expr{a, b}, Where: []api.Expr{c}})},
		{"INSERT\tINTO t VALUES((a),(b)),(((c)))", change(insert([]api.Expr{a, b}, []api.Expr{c}))},
		{"UPDATE t SET a=(b),b=((c))WHERE(d)", change(api.Action{Kind: api.ActUpdate, Table: "t", Sets: []api.Set{set("a", b), set("b", c)}, Where: []api.Expr{d}})},
		{"CREATE TABLE t(a INT,b TEXT)", newTable("t", api.Column{Name: "a", Type: api.Int}, api.Column{Name: "b", Type: api.Text})},
	}...)
}

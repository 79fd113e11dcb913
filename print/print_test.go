package print

import (
	"math"
	"reflect"
	"strings"
	"testing"

	"triggerstore/api"
	"triggerstore/syntax"
)

func literal(v api.Value) api.Expr { return api.Expr{Kind: api.ExprLiteral, Value: v} }

func number(n int64) api.Expr { return literal(api.Value{Kind: api.Int, Int: n}) }

func words(s string) api.Expr { return literal(api.Value{Kind: api.Text, Text: s}) }

func truth(n int64) api.Expr { return literal(api.Value{Kind: api.Bool, Int: n}) }

func column(name string) api.Expr { return api.Expr{Kind: api.ExprColumn, Name: name} }

func qualified(table, name string) api.Expr {
	return api.Expr{Kind: api.ExprColumn, Table: table, Name: name}
}

// with returns an expression of a kind with arguments.
func with(kind int, args ...api.Expr) api.Expr { return api.Expr{Kind: kind, Args: args} }

func not(e api.Expr) api.Expr { return with(api.ExprNot, e) }

func negate(e api.Expr) api.Expr { return with(api.ExprNegate, e) }

func isNull(e api.Expr) api.Expr { return with(api.ExprIsNull, e) }

func isNotNull(e api.Expr) api.Expr {
	e = isNull(e)
	e.Not = true
	return e
}

func between(a, b, c api.Expr) api.Expr { return with(api.ExprBetween, a, b, c) }

func join(op int, a, b api.Expr) api.Expr {
	return api.Expr{Kind: api.ExprBinary, Op: op, Args: []api.Expr{a, b}}
}

// over returns an expression of a kind with a query.
func over(kind int, q api.Query) api.Expr { return api.Expr{Kind: kind, Sub: []api.Query{q}} }

func list(l ...api.Expr) []api.Expr { return l }

// all returns a query of all columns of t, one returns one with items, count returns one with neither.
func all(where ...api.Expr) api.Query { return api.Query{Star: true, From: "t", Where: where} }

func one(items ...api.Expr) api.Query { return api.Query{From: "t", Items: items} }

func count(where ...api.Expr) api.Query { return api.Query{From: "t", Where: where} }

var (
	a, b, c = column("a"), column("b"), column("c")
	bad     = number(-1)
	// long is a name with the most bytes.
	long = strings.Repeat("z", api.MaxName)
)

// written is a tree with its text.
type written[T any] struct {
	tree T
	want string
}

func expectExprs(t *testing.T, l ...written[api.Expr]) {
	t.Helper()
	for _, x := range l {
		if got, ok := Expr(x.tree); got != x.want || !ok {
			t.Errorf("%q, %v, want %q", got, ok, x.want)
		}
	}
}

func expectStatements(t *testing.T, l ...written[api.Statement]) {
	t.Helper()
	for _, x := range l {
		if got, ok := Statement(x.tree); got != x.want || !ok {
			t.Errorf("%q, %v, want %q", got, ok, x.want)
		}
	}
}

// P12.1: a literal is written as value.Format writes it.
func TestLiterals(t *testing.T) {
	expectExprs(t, []written[api.Expr]{
		{literal(api.Value{}), "NULL"},
		{number(0), "0"},
		{number(120), "120"},
		{number(math.MaxInt64), "9223372036854775807"},
		{truth(0), "FALSE"},
		{truth(1), "TRUE"},
		{words(""), "''"},
		{words("it's"), "'it''s'"},
		{words(" a  b "), "' a  b '"},
		{words("SELECT"), "'SELECT'"},
		{words(strings.Repeat("~", api.MaxBytes)), "'" + strings.Repeat("~", api.MaxBytes) + "'"},
	}...)
}

// P12.1: a column is its name, behind its qualifier and a period without spaces.
func TestColumns(t *testing.T) {
	expectExprs(t, []written[api.Expr]{
		{a, "a"},
		{column(long), long},
		{qualified("t", "a"), "t.a"},
		{qualified("NEW", "a"), "NEW.a"},
		{qualified("OLD", "a"), "OLD.a"},
		{qualified("INSERTED", "a"), "INSERTED.a"},
		{qualified("DELETED", long), "DELETED." + long},
		{join(api.OpEq, qualified("t", "a"), qualified("NEW", "b")), "t.a = NEW.b"},
	}...)
}

// P12.1: each operator between its arguments, and each other form.
func TestForms(t *testing.T) {
	for op, symbol := range []string{"", "OR", "AND", "=", "<>", "<", "<=", ">", ">=", "+", "-", "*", "/", "%"} {
		if op > 0 {
			expectExprs(t, written[api.Expr]{join(op, a, b), "a " + symbol + " b"})
		}
	}
	expectExprs(t, []written[api.Expr]{
		{not(a), "NOT a"},
		{not(not(not(a))), "NOT NOT NOT a"},
		{negate(number(5)), "- 5"},
		{negate(negate(a)), "- - a"},
		{join(api.OpSub, a, negate(b)), "a - - b"},
		{join(api.OpSub, negate(a), b), "- a - b"},
		{isNull(a), "a IS NULL"},
		{isNotNull(a), "a IS NOT NULL"},
		{not(isNotNull(a)), "NOT a IS NOT NULL"},
		{between(a, b, c), "a BETWEEN b AND c"},
		{join(api.OpAnd, between(a, b, c), between(b, c, a)), "a BETWEEN b AND c AND b BETWEEN c AND a"},
	}...)
}

// P12.1: EXISTS and the aggregates, with and without a condition, of tables and of transition tables.
func TestSubqueries(t *testing.T) {
	inserted := api.Query{Star: true, From: "INSERTED", Where: list(join(api.OpOr, a, b))}
	deleted := api.Query{From: "DELETED"}
	lowest := api.Query{From: "t", Items: list(join(api.OpAdd, a, b)), Where: list(not(c))}
	expectExprs(t, []written[api.Expr]{
		{over(api.ExprExists, all()), "EXISTS (SELECT * FROM t)"},
		{over(api.ExprExists, inserted), "EXISTS (SELECT * FROM INSERTED WHERE a OR b)"},
		{over(api.ExprCount, count()), "(SELECT COUNT (*) FROM t)"},
		{over(api.ExprCount, deleted), "(SELECT COUNT (*) FROM DELETED)"},
		{over(api.ExprCount, count(a)), "(SELECT COUNT (*) FROM t WHERE a)"},
		{over(api.ExprSum, one(a)), "(SELECT SUM (a) FROM t)"},
		{over(api.ExprMin, lowest), "(SELECT MIN (a + b) FROM t WHERE NOT c)"},
		{over(api.ExprMax, one(qualified("t", "a"))), "(SELECT MAX (t.a) FROM t)"},
		{not(over(api.ExprExists, all())), "NOT EXISTS (SELECT * FROM t)"},
		{negate(over(api.ExprCount, count())), "- (SELECT COUNT (*) FROM t)"},
		{over(api.ExprMin, one(over(api.ExprMax, one(a)))), "(SELECT MIN ((SELECT MAX (a) FROM t)) FROM t)"},
		{over(api.ExprExists, all(over(api.ExprExists, all()))), "EXISTS (SELECT * FROM t WHERE EXISTS (SELECT * FROM t))"},
	}...)
}

// P12.1: spaces are left out beside symbols, but not beside texts that look like them, nor beside other symbols.
func TestSpaces(t *testing.T) {
	for _, s := range []string{"(", ")", ",", ";", ".", "*", "", " "} {
		text := "'" + s + "'"
		expectExprs(t, written[api.Expr]{join(api.OpEq, words(s), words(s)), text + " = " + text})
	}
	expectExprs(t, []written[api.Expr]{
		{join(api.OpMul, a, join(api.OpMul, b, c)), "a * (b * c)"},
		{join(api.OpMul, join(api.OpAdd, a, b), c), "(a + b) * c"},
		{negate(negate(join(api.OpAdd, a, b))), "- - (a + b)"},
		{negate(join(api.OpMul, join(api.OpAdd, a, b), c)), "- ((a + b) * c)"},
		{negate(join(api.OpMul, c, join(api.OpAdd, a, b))), "- (c * (a + b))"},
		{join(api.OpAdd, over(api.ExprCount, count()), over(api.ExprCount, count())), "(SELECT COUNT (*) FROM t) + (SELECT COUNT (*) FROM t)"},
		{over(api.ExprSum, one(words(")"))), "(SELECT SUM (')') FROM t)"},
	}...)
}

// sort is a sort of expressions: one of them, its precedence as P11.6 lists it, and how one is made and written with an argument at each of its places, which has a least precedence.
type sort struct {
	example api.Expr
	own     int
	places  []place
}

type place struct {
	least         int
	put           func(e api.Expr) api.Expr
	before, after string
}

func operator(op, own, left, right int, symbol string) sort {
	return sort{join(op, a, b), own, []place{
		{left, func(e api.Expr) api.Expr { return join(op, e, c) }, "", " " + symbol + " c"},
		{right, func(e api.Expr) api.Expr { return join(op, c, e) }, "c " + symbol + " ", ""},
	}}
}

func aggregate(kind int, name string) sort {
	return sort{over(kind, one(a)), 8, []place{
		{1, func(e api.Expr) api.Expr { return over(kind, one(e)) }, "(SELECT " + name + " (", ") FROM t)"},
		{1, func(e api.Expr) api.Expr {
			return over(kind, api.Query{From: "t", Items: list(c), Where: list(e)})
		}, "(SELECT " + name + " (c) FROM t WHERE ", ")"},
	}}
}

func sorts() []sort {
	return []sort{
		operator(api.OpOr, 1, 1, 2, "OR"), operator(api.OpAnd, 2, 2, 3, "AND"),
		operator(api.OpEq, 4, 5, 5, "="), operator(api.OpNe, 4, 5, 5, "<>"), operator(api.OpLt, 4, 5, 5, "<"),
		operator(api.OpLe, 4, 5, 5, "<="), operator(api.OpGt, 4, 5, 5, ">"), operator(api.OpGe, 4, 5, 5, ">="),
		operator(api.OpAdd, 5, 5, 6, "+"), operator(api.OpSub, 5, 5, 6, "-"),
		operator(api.OpMul, 6, 6, 7, "*"), operator(api.OpDiv, 6, 6, 7, "/"), operator(api.OpMod, 6, 6, 7, "%"),
		{not(a), 3, []place{{3, not, "NOT ", ""}}},
		{negate(a), 7, []place{{7, negate, "- ", ""}}},
		{isNull(a), 4, []place{{5, isNull, "", " IS NULL"}}},
		{isNotNull(a), 4, []place{{5, isNotNull, "", " IS NOT NULL"}}},
		{between(a, b, c), 4, []place{
			{5, func(e api.Expr) api.Expr { return between(e, b, c) }, "", " BETWEEN b AND c"},
			{5, func(e api.Expr) api.Expr { return between(a, e, c) }, "a BETWEEN ", " AND c"},
			{5, func(e api.Expr) api.Expr { return between(a, b, e) }, "a BETWEEN b AND ", ""},
		}},
		{a, 8, nil}, {qualified("t", "a"), 8, nil}, {number(1), 8, nil}, {literal(api.Value{}), 8, nil}, {words("b"), 8, nil},
		{over(api.ExprExists, all()), 8, []place{
			{1, func(e api.Expr) api.Expr { return over(api.ExprExists, all(e)) }, "EXISTS (SELECT * FROM t WHERE ", ")"},
		}},
		{over(api.ExprCount, count()), 8, []place{
			{1, func(e api.Expr) api.Expr { return over(api.ExprCount, count(e)) }, "(SELECT COUNT (*) FROM t WHERE ", ")"},
		}},
		aggregate(api.ExprSum, "SUM"), aggregate(api.ExprMin, "MIN"), aggregate(api.ExprMax, "MAX"),
	}
}

// P12.1: each sort of expression at each place of each sort is in parentheses as P11.6 says, and nowhere else.
func TestParentheses(t *testing.T) {
	for _, outer := range sorts() {
		for _, p := range outer.places {
			for _, inner := range sorts() {
				text, _ := Expr(inner.example)
				if inner.own < p.least {
					text = "(" + text + ")"
				}
				expectExprs(t, written[api.Expr]{p.put(inner.example), p.before + text + p.after})
			}
		}
	}
}

// P12.1: operators in a row have parentheses only where they group from the right.
func TestRows(t *testing.T) {
	for op, symbol := range map[int]string{api.OpOr: "OR", api.OpAnd: "AND", api.OpAdd: "+", api.OpSub: "-", api.OpMul: "*", api.OpDiv: "/", api.OpMod: "%"} {
		expectExprs(t, []written[api.Expr]{
			{join(op, join(op, join(op, a, b), c), a), strings.Join([]string{"a", "b", "c", "a"}, " "+symbol+" ")},
			{join(op, a, join(op, b, join(op, c, a))), "a " + symbol + " (b " + symbol + " (c " + symbol + " a))"},
		}...)
	}
	expectExprs(t, []written[api.Expr]{
		{join(api.OpEq, join(api.OpLt, a, b), join(api.OpGt, b, c)), "(a < b) = (b > c)"},
		{join(api.OpOr, join(api.OpAnd, not(a), b), join(api.OpAnd, b, c)), "NOT a AND b OR b AND c"},
		{join(api.OpSub, join(api.OpMul, a, b), join(api.OpMod, b, c)), "a * b - b % c"},
		{not(join(api.OpEq, join(api.OpAdd, a, b), c)), "NOT a + b = c"},
		{join(api.OpMul, join(api.OpAdd, a, number(1)), number(2)), "(a + 1) * 2"},
	}...)
}

// P12.3: an expression that is not well-formed has no text, wherever the reason is.
func TestBadExprs(t *testing.T) {
	for i, e := range []api.Expr{
		{}, {Kind: -1}, {Kind: 13}, {Kind: math.MaxInt}, {Kind: math.MinInt}, bad, words("\n"), column(""), column("A"), qualified("T", "a"),
		with(api.ExprNot), with(api.ExprNot, a, b), with(api.ExprNegate, bad), with(api.ExprIsNull), between(a, b, bad), with(api.ExprBetween, a, b),
		join(0, a, b), join(14, a, b), join(-1, a, b), join(math.MaxInt, a, b), with(api.ExprBinary, a, b), join(api.OpOr, a, api.Expr{}),
		{Kind: api.ExprExists}, {Kind: api.ExprCount}, {Kind: api.ExprSum}, over(api.ExprExists, count()), over(api.ExprCount, one(a)), over(api.ExprMin, count()),
		over(api.ExprMax, one(a, b)), over(api.ExprSum, one(bad)), over(api.ExprExists, all(a, b)), over(api.ExprExists, all(bad)), over(api.ExprCount, api.Query{}),
		{Kind: api.ExprColumn, Name: "a", Not: true}, {Kind: api.ExprLiteral, Name: "a"}, {Kind: api.ExprNot, Op: 1, Args: list(a)},
	} {
		if got, ok := Expr(e); got != "" || ok {
			t.Errorf("%d: %q, %v", i, got, ok)
		}
	}
}

// deep returns an expression of so many nested steps around a.
func deep(steps int, step func(api.Expr) api.Expr) api.Expr {
	e := a
	for range steps {
		e = step(e)
	}
	return e
}

// R1: deep trees and wide ones are written.
func TestLargeTrees(t *testing.T) {
	const most = 1 << 16
	expectExprs(t, []written[api.Expr]{
		{deep(most, not), strings.Repeat("NOT ", most) + "a"},
		{deep(most, isNull), strings.Repeat("(", most-1) + "a" + strings.Repeat(" IS NULL)", most-1) + " IS NULL"},
		{deep(most, func(e api.Expr) api.Expr { return join(api.OpSub, e, b) }), "a" + strings.Repeat(" - b", most)},
		{deep(most, func(e api.Expr) api.Expr { return join(api.OpSub, b, e) }), strings.Repeat("b - (", most-1) + "b - a" + strings.Repeat(")", most-1)},
		{deep(most, func(e api.Expr) api.Expr { return over(api.ExprSum, one(e)) }), strings.Repeat("(SELECT SUM (", most) + "a" + strings.Repeat(") FROM t)", most)},
		{deep(most, func(e api.Expr) api.Expr { return over(api.ExprExists, all(e)) }), strings.Repeat("EXISTS (SELECT * FROM t WHERE ", most) + "a" + strings.Repeat(")", most)},
		{deep(18, func(e api.Expr) api.Expr { return join(api.OpAdd, e, negate(e)) }), doubled(18)},
	}...)
}

// doubled returns the text of a sum with its negation, as often as steps says.
func doubled(steps int) string {
	s := "a"
	for i := range steps {
		if i == 0 {
			s = "a + - a"
		} else {
			s += " + - (" + s + ")"
		}
	}
	return s
}

// R2: arguments keep their elements and what lies behind them.
func TestArgumentsStay(t *testing.T) {
	spare := func() []api.Expr { return append(make([]api.Expr, 0, 4), a, b, c)[:1] }
	columns := append(make([]api.Set, 0, 3), api.Set{Column: "a", Expr: a}, api.Set{Column: "b", Expr: b})[:1]
	names := func() []string { return append(make([]string, 0, 4), "p", "q", "r")[:2] }
	make1 := func() api.Statement {
		return api.Statement{Kind: api.StmtCreateTrigger, Trigger: api.Trigger{Name: "r", Table: "t", Event: api.Update,
			Of: names(), Precedes: names(), Follows: names(), When: spare(),
			Rank:    append(make([]api.Rank, 0, 2), api.Rank{Table: "t", Column: "a"}, api.Rank{Table: "u"})[:1],
			Actions: []api.Action{{Kind: api.ActUpdate, Table: "t", Sets: columns, Where: spare()}, {Kind: api.ActInsert, Table: "t", Rows: [][]api.Expr{spare()}}},
		}}
	}
	s, same := make1(), make1()
	if _, ok := Statement(s); !ok || !syntax.Valid(s) {
		t.Fatal("the trigger is not well-formed")
	}
	x, y := s.Trigger, same.Trigger
	if !reflect.DeepEqual(x.Of[:3], y.Of[:3]) || !reflect.DeepEqual(x.Precedes[:3], y.Precedes[:3]) || !reflect.DeepEqual(x.Follows[:3], y.Follows[:3]) {
		t.Error("names have changed")
	}
	if !reflect.DeepEqual(x.When[:3], y.When[:3]) || !reflect.DeepEqual(x.Rank[:2], y.Rank[:2]) || columns[:2][1].Column != "b" {
		t.Error("the condition or the certificate has changed")
	}
	for i := range x.Actions {
		if !reflect.DeepEqual(x.Actions[i], y.Actions[i]) {
			t.Errorf("the action %d has changed", i)
		}
	}
	if !reflect.DeepEqual(x.Actions[0].Where[:3], y.Actions[0].Where[:3]) || !reflect.DeepEqual(x.Actions[1].Rows[0][:3], y.Actions[1].Rows[0][:3]) {
		t.Error("expressions of actions have changed")
	}
}

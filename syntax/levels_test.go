package syntax

import (
	"fmt"
	"math"
	"testing"

	"triggerstore/api"
)

// A sort is an expression of one precedence. Its least has the least precedences of the arguments, as P11.6 lists them, and its levels are those that it adds to its arguments' own.
type sort struct {
	name       string
	e          api.Expr
	precedence int
	least      []int
	levels     int
}

// sorts has all sorts of expressions that have arguments, which are literals.
func sorts() []sort {
	l := []sort{
		{"NOT", not(five), 3, []int{3}, 1},
		{"IS NULL", isNull(five), 4, []int{5}, 0},
		{"IS NOT NULL", changed(isNull(five), func(e *api.Expr) { e.Not = true }), 4, []int{5}, 0},
		{"BETWEEN", between(five, five, five), 4, []int{5, 5, 5}, 0},
		{"minus sign", negate(five), 7, []int{7}, 1},
	}
	for op, x := range []struct{ precedence, left, right int }{
		{1, 1, 2}, {2, 2, 3}, {4, 5, 5}, {4, 5, 5}, {4, 5, 5}, {4, 5, 5}, {4, 5, 5}, {4, 5, 5}, {5, 5, 6}, {5, 5, 6}, {6, 6, 7}, {6, 6, 7}, {6, 6, 7},
	} {
		l = append(l, sort{fmt.Sprint("operator ", op+1), join(op+1, five, five), x.precedence, []int{x.left, x.right}, 0})
	}
	return l
}

// atoms has all sorts of expressions that have no arguments.
func atoms() []sort {
	return []sort{
		{"number", five, 8, nil, 0}, {"text", words("it's"), 8, nil, 0}, {"null", literal(api.Value{}), 8, nil, 0},
		{"column", a, 8, nil, 0}, {"qualified column", qualified("NEW", "a"), 8, nil, 0},
		{"EXISTS", over(api.ExprExists, all()), 8, nil, 1}, {"COUNT", over(api.ExprCount, one()), 8, nil, 2},
		{"SUM", over(api.ExprSum, one(a)), 8, nil, 2}, {"MIN", over(api.ExprMin, one(a)), 8, nil, 2}, {"MAX", over(api.ExprMax, one(a)), 8, nil, 2},
	}
}

// P11.6: the precedences of all sorts.
func TestPrecedence(t *testing.T) {
	for _, x := range append(sorts(), atoms()...) {
		if got := Precedence(x.e); got != x.precedence {
			t.Errorf("the precedence of %s is %d, want %d", x.name, got, x.precedence)
		}
	}
}

// P11.6: all other expressions have the precedence 8, also those that are not well-formed. Only ExprBinary has an operator.
func TestPrecedenceOfOthers(t *testing.T) {
	for _, op := range []int{0, -1, 14, 15, math.MaxInt, math.MinInt} {
		if got := Precedence(join(op, a, a)); got != 8 {
			t.Errorf("the precedence of the operator %d is %d", op, got)
		}
	}
	for _, kind := range []int{0, -1, 1, 2, 8, 9, 10, 11, 12, 13, 14, math.MaxInt, math.MinInt} {
		for op := range 15 {
			if got := Precedence(api.Expr{Kind: kind, Op: op, Not: true, Args: list(a, a)}); got != 8 {
				t.Errorf("the precedence of the kind %d with the operator %d is %d", kind, op, got)
			}
		}
	}
	for kind, want := range map[int]int{api.ExprNot: 3, api.ExprNegate: 7, api.ExprIsNull: 4, api.ExprBetween: 4} {
		for op := range 15 {
			if got := Precedence(api.Expr{Kind: kind, Op: op}); got != want {
				t.Errorf("the precedence of the kind %d with the operator %d is %d", kind, op, got)
			}
		}
	}
}

// P11.6, P11.7: each sort at each place of each sort: an argument with a smaller precedence has one level more.
func TestParentheses(t *testing.T) {
	for _, outer := range sorts() {
		if got := LevelsOf(outer.e); got != outer.levels {
			t.Errorf("%s has %d levels", outer.name, got)
		}
		for place, least := range outer.least {
			for _, inner := range append(sorts(), atoms()...) {
				e := outer.e
				e.Args = append([]api.Expr{}, e.Args...)
				e.Args[place] = inner.e
				want := outer.levels + inner.levels
				if inner.precedence < least {
					want++
				}
				if got := LevelsOf(e); got != want {
					t.Errorf("%s with %s at the place %d has %d levels, want %d", outer.name, inner.name, place, got, want)
				}
			}
		}
	}
}

// P11.6: items, conditions, assigned expressions and rows are at places where nothing gets parentheses.
func TestOtherPlaces(t *testing.T) {
	for _, x := range append(sorts(), atoms()...) {
		expectLevels(t, x.levels+1, over(api.ExprExists, all(x.e)))
		expectLevels(t, max(2, x.levels+1), over(api.ExprCount, api.Query{From: "t", Where: list(x.e)}))
		for _, kind := range []int{api.ExprSum, api.ExprMin, api.ExprMax} {
			expectLevels(t, x.levels+2, over(kind, one(x.e)))
			expectLevels(t, max(2, x.levels+1), over(kind, api.Query{From: "t", Items: list(a), Where: list(x.e)}))
		}
		expectLevelsIn(t, x.levels, api.Statement{Kind: api.StmtSelect, Query: one(a, x.e)})
		expectLevelsIn(t, x.levels+1, api.Statement{Kind: api.StmtChange, Action: insert(list(a, x.e))})
		expectLevelsIn(t, x.levels, api.Statement{Kind: api.StmtChange, Action: update(api.Set{Column: "a", Expr: x.e})})
	}
}

func expectLevels(t *testing.T, want int, e api.Expr) {
	t.Helper()
	if got := LevelsOf(e); got != want {
		t.Errorf("%+v has %d levels, want %d", e, got, want)
	}
}

func expectLevelsIn(t *testing.T, want int, s api.Statement) {
	t.Helper()
	if got := Levels(s); got != want {
		t.Errorf("%+v has %d levels, want %d", s, got, want)
	}
}

// nested returns an expression with so many levels.
func nested(levels int) api.Expr {
	e := a
	for range levels {
		e = not(e)
	}
	return e
}

// P11.7: the examples of the chapter, and others by hand.
func TestLevelsOf(t *testing.T) {
	b, c := column("b"), column("c")
	expectLevels(t, 2, not(join(api.OpAnd, a, b)))
	expectLevels(t, 1, join(api.OpSub, a, join(api.OpSub, b, c)))
	expectLevels(t, 0, join(api.OpSub, join(api.OpSub, a, b), c))
	expectLevels(t, 0, a)
	expectLevels(t, 7, nested(7))
	// (NOT a) = b has the parenthesis and NOT, NOT (a = b) has both as well, - (a + b) * c, too.
	expectLevels(t, 2, join(api.OpEq, not(a), b))
	expectLevels(t, 2, not(join(api.OpOr, a, b)))
	expectLevels(t, 2, join(api.OpMul, negate(join(api.OpAdd, a, b)), c))
	// The greatest ones of the arguments, wherever they are.
	expectLevels(t, 3, join(api.OpOr, nested(3), nested(1)))
	expectLevels(t, 3, join(api.OpOr, nested(1), nested(3)))
	expectLevels(t, 4, between(join(api.OpEq, a, b), five, isNull(negate(negate(negate(a))))))
	expectLevels(t, 3, between(negate(a), negate(negate(negate(a))), five))
	// (a OR b) AND (a OR b) has one, since the first parenthesis is closed before the second one.
	expectLevels(t, 1, join(api.OpAnd, join(api.OpOr, a, b), join(api.OpOr, a, b)))
}

// P11.7: aggregates, whose items and conditions are in different parentheses.
func TestLevelsOfSubqueries(t *testing.T) {
	for item := range 6 {
		for where := range 6 {
			q := api.Query{From: "t", Items: list(nested(item)), Where: list(nested(where))}
			for _, kind := range []int{api.ExprSum, api.ExprMin, api.ExprMax} {
				expectLevels(t, max(2+item, 1+where), over(kind, q))
				expectLevels(t, max(2+item, 1+where)+1, not(over(kind, q)))
			}
		}
		expectLevels(t, 1+item, over(api.ExprExists, all(nested(item))))
		expectLevels(t, max(2, 1+item), over(api.ExprCount, api.Query{From: "t", Where: list(nested(item))}))
	}
	expectLevels(t, 1, over(api.ExprExists, all()))
	expectLevels(t, 2, over(api.ExprCount, one()))
	expectLevels(t, 4, over(api.ExprSum, one(over(api.ExprMax, one(a)))))
	expectLevels(t, 3, over(api.ExprExists, all(over(api.ExprExists, all(over(api.ExprExists, all()))))))
}

// P11.7: statements, with the greatest levels at each place.
func TestLevels(t *testing.T) {
	n := api.Column{Name: "n", Type: api.Int, NotNull: true}
	m := api.Column{Name: "m", Type: api.Int}
	expectLevelsIn(t, 1, api.Statement{Kind: api.StmtCreateTable, Schema: api.Schema{Name: "t", Columns: []api.Column{n}}})
	expectLevelsIn(t, 1, api.Statement{Kind: api.StmtCreateTable, Schema: api.Schema{Name: "t", Columns: []api.Column{n, m}}})
	expectLevelsIn(t, 0, api.Statement{Kind: api.StmtDropTable, Name: "t"})
	expectLevelsIn(t, 0, api.Statement{Kind: api.StmtDropTrigger, Name: "r"})
	expectLevelsIn(t, 0, api.Statement{})
	expectLevelsIn(t, 0, api.Statement{Kind: api.StmtSelect, Query: all()})
	expectLevelsIn(t, 1, api.Statement{Kind: api.StmtChange, Action: insert(list(a))})
	for i := range 5 {
		for k := range 5 {
			x, y := nested(i), nested(k)
			query := api.Query{From: "t", Items: list(a, x), Where: list(y)}
			expectLevelsIn(t, max(i, k), api.Statement{Kind: api.StmtSelect, Query: query})
			updated := update(api.Set{Column: "a", Expr: x}, api.Set{Column: "b", Expr: five})
			updated.Where = list(y)
			acts := map[int][]api.Action{
				max(i, k) + 1: {insert(list(a, x), list(y))},
				max(i, k):     {insertFrom(query), updated},
				k:             {remove(y)},
			}
			for want, l := range acts {
				for _, act := range l {
					expectLevelsIn(t, want, api.Statement{Kind: api.StmtChange, Action: act})
				}
			}
		}
	}
}

// P11.7: triggers, where only the condition is in parentheses of its own.
func TestLevelsOfTriggers(t *testing.T) {
	trigger := func(when []api.Expr, l ...api.Action) api.Statement {
		r := after()
		r.When, r.Actions = when, l
		return api.Statement{Kind: api.StmtCreateTrigger, Trigger: r}
	}
	expectLevelsIn(t, 0, trigger(nil, remove(), abort("no")))
	expectLevelsIn(t, 1, trigger(list(a), remove(), abort("no")))
	expectLevelsIn(t, 1, trigger(nil, insert(list(a))))
	expectLevelsIn(t, 0, trigger(nil, assign("a")))
	for i := range 5 {
		for k := range 5 {
			expectLevelsIn(t, max(i+1, k), trigger(list(nested(i)), abort("no"), remove(nested(k))))
			expectLevelsIn(t, max(i, k), trigger(nil, remove(nested(i)), update(api.Set{Column: "a", Expr: nested(k)})))
			expectLevelsIn(t, max(i, k), trigger(nil, api.Action{Kind: api.ActSet, Sets: []api.Set{{Column: "a", Expr: nested(i)}}}, insertFrom(all(nested(k)))))
			expectLevelsIn(t, max(i+1, k+1), trigger(list(nested(i)), insert(list(a), list(five, nested(k)))))
		}
	}
}

// P11.6, P11.7: trees that are not well-formed: a literal and a column have no levels, whatever they hold, and other places have no parentheses.
func TestLevelsOfOthers(t *testing.T) {
	or := join(api.OpOr, a, a)
	expectLevels(t, 0, api.Expr{})
	expectLevels(t, 0, api.Expr{Kind: api.ExprLiteral, Args: list(not(a))})
	expectLevels(t, 0, api.Expr{Kind: api.ExprColumn, Args: list(not(a))})
	expectLevels(t, 1, with(13, not(a), or))
	expectLevels(t, 0, with(-1, or, or, or, or))
	expectLevels(t, 0, with(api.ExprBetween, a, a, a, or, or))
	expectLevels(t, 1, with(api.ExprBetween, a, a, or, a))
	expectLevels(t, 0, join(0, or, or))
	expectLevels(t, 0, join(14, or, or))
	expectLevels(t, 1, api.Expr{Kind: api.ExprBinary, Op: api.OpMul, Args: list(or)})
	expectLevels(t, 0, api.Expr{Kind: api.ExprBinary, Op: api.OpOr, Args: list(a, a, or)})
	expectLevels(t, 1, over(api.ExprExists))
	expectLevels(t, 2, over(api.ExprCount))
	expectLevels(t, 2, over(api.ExprCount, one(nested(5))))
	expectLevels(t, 2, over(api.ExprSum, one()))
	for _, kind := range []int{api.ExprNot, api.ExprNegate} {
		expectLevels(t, 1, with(kind))
		expectLevels(t, 2, with(kind, or))
		expectLevels(t, 1, with(kind, a, or))
	}
	for _, kind := range []int{7, -1, math.MaxInt, math.MinInt} {
		expectLevelsIn(t, 0, api.Statement{Kind: kind})
	}
	expectLevelsIn(t, 0, api.Statement{Kind: api.StmtCreateTable})
}

package syntax

import "triggerstore/api"

// The precedences of expressions: those with greater ones bind more tightly.
const (
	bindsOr = 1 + iota
	bindsAnd
	bindsNot
	bindsComparison
	bindsSum
	bindsProduct
	bindsNegation
	bindsOther
)

// binding is the precedence of an expression, with the least ones that its arguments have without parentheses. At a place with 0, and at all later places, every argument is without parentheses.
type binding struct {
	own    int
	places [3]int
}

// operators has the bindings of the operators. Operators group from the left, but for comparisons, which do not follow one another.
var operators = [...]binding{
	api.OpOr:  {bindsOr, [3]int{bindsOr, bindsAnd}},
	api.OpAnd: {bindsAnd, [3]int{bindsAnd, bindsNot}},
	api.OpEq:  {bindsComparison, [3]int{bindsSum, bindsSum}},
	api.OpNe:  {bindsComparison, [3]int{bindsSum, bindsSum}},
	api.OpLt:  {bindsComparison, [3]int{bindsSum, bindsSum}},
	api.OpLe:  {bindsComparison, [3]int{bindsSum, bindsSum}},
	api.OpGt:  {bindsComparison, [3]int{bindsSum, bindsSum}},
	api.OpGe:  {bindsComparison, [3]int{bindsSum, bindsSum}},
	api.OpAdd: {bindsSum, [3]int{bindsSum, bindsProduct}},
	api.OpSub: {bindsSum, [3]int{bindsSum, bindsProduct}},
	api.OpMul: {bindsProduct, [3]int{bindsProduct, bindsNegation}},
	api.OpDiv: {bindsProduct, [3]int{bindsProduct, bindsNegation}},
	api.OpMod: {bindsProduct, [3]int{bindsProduct, bindsNegation}},
}

func bindingOf(e api.Expr) binding {
	switch e.Kind {
	case api.ExprNot:
		return binding{bindsNot, [3]int{bindsNot}}
	case api.ExprNegate:
		return binding{bindsNegation, [3]int{bindsNegation}}
	case api.ExprIsNull:
		return binding{bindsComparison, [3]int{bindsSum}}
	case api.ExprBetween:
		return binding{bindsComparison, [3]int{bindsSum, bindsSum, bindsSum}}
	case api.ExprBinary:
		if validOperator(e.Op) {
			return operators[e.Op]
		}
	}
	return binding{own: bindsOther}
}

// Precedence returns how tightly e binds: from 1 for OR to 8 for what needs no parentheses anywhere.
func Precedence(e api.Expr) int {
	return bindingOf(e).own
}

// inParentheses reports whether the argument of e at a place is written in parentheses.
func inParentheses(e api.Expr, place int) bool {
	b := bindingOf(e)
	return place < len(b.places) && Precedence(e.Args[place]) < b.places[place]
}

// LevelsOf returns how many levels are nested in e.
func LevelsOf(e api.Expr) int {
	switch e.Kind {
	case api.ExprLiteral, api.ExprColumn:
		return 0
	case api.ExprNot, api.ExprNegate:
		return 1 + levelsOfArgs(e)
	case api.ExprExists:
		return 1 + levelsOfConditions(e.Sub)
	case api.ExprCount:
		return max(2, 1+levelsOfConditions(e.Sub))
	case api.ExprSum, api.ExprMin, api.ExprMax:
		return max(2+levelsOfItems(e.Sub), 1+levelsOfConditions(e.Sub))
	}
	return levelsOfArgs(e)
}

// levelsOfArgs returns the greatest levels of the arguments, with their parentheses.
func levelsOfArgs(e api.Expr) int {
	levels := 0
	for i, arg := range e.Args {
		own := LevelsOf(arg)
		if inParentheses(e, i) {
			own++
		}
		levels = max(levels, own)
	}
	return levels
}

// levelsOfList returns the greatest levels of expressions that are not in parentheses.
func levelsOfList(l []api.Expr) int {
	levels := 0
	for _, e := range l {
		levels = max(levels, LevelsOf(e))
	}
	return levels
}

func levelsOfItems(l []api.Query) int {
	levels := 0
	for _, q := range l {
		levels = max(levels, levelsOfList(q.Items))
	}
	return levels
}

func levelsOfConditions(l []api.Query) int {
	levels := 0
	for _, q := range l {
		levels = max(levels, levelsOfList(q.Where))
	}
	return levels
}

// Levels returns how many levels are nested in s.
func Levels(s api.Statement) int {
	switch s.Kind {
	case api.StmtCreateTable:
		return min(1, len(s.Schema.Columns)) // all columns are in one pair of parentheses
	case api.StmtCreateTrigger:
		return levelsOfTrigger(s.Trigger)
	case api.StmtSelect:
		return levelsOfQuery(s.Query)
	case api.StmtChange:
		return levelsOfAction(s.Action)
	}
	return 0
}

func levelsOfTrigger(t api.Trigger) int {
	levels := 0
	if len(t.When) > 0 {
		levels = 1 + levelsOfList(t.When)
	}
	for _, a := range t.Actions {
		levels = max(levels, levelsOfAction(a))
	}
	return levels
}

func levelsOfQuery(q api.Query) int {
	return max(levelsOfList(q.Items), levelsOfList(q.Where))
}

// levelsOfAction looks at all fields, since those that an action does not use are empty.
func levelsOfAction(a api.Action) int {
	levels := levelsOfList(a.Where)
	for _, row := range a.Rows {
		levels = max(levels, 1+levelsOfList(row))
	}
	for _, q := range a.Query {
		levels = max(levels, levelsOfQuery(q))
	}
	for _, s := range a.Sets {
		levels = max(levels, LevelsOf(s.Expr))
	}
	return levels
}

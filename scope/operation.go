package scope

import "triggerstore/api"

// parts says how many arguments and queries an expression has, and how many items each of its queries.
type parts struct {
	args, queries, items int
}

// partsOf has the parts of each kind of expression.
var partsOf = [...]parts{
	api.ExprLiteral: {},
	api.ExprColumn:  {},
	api.ExprNot:     {args: 1},
	api.ExprNegate:  {args: 1},
	api.ExprBinary:  {args: 2},
	api.ExprIsNull:  {args: 1},
	api.ExprBetween: {args: 3},
	api.ExprExists:  {queries: 1},
	api.ExprCount:   {queries: 1},
	api.ExprSum:     {queries: 1, items: 1},
	api.ExprMin:     {queries: 1, items: 1},
	api.ExprMax:     {queries: 1, items: 1},
}

// hasItsParts reports whether e has a kind and an operator that exist, and as many parts as they have. What the parts are is not looked at, since their errors come later.
func hasItsParts(e api.Expr) bool {
	if e.Kind < 1 || e.Kind >= len(partsOf) || e.Kind == api.ExprBinary && !isOperator(e.Op) {
		return false
	}
	p := partsOf[e.Kind]
	if len(e.Args) != p.args || len(e.Sub) != p.queries {
		return false
	}
	for _, q := range e.Sub {
		if len(q.Items) != p.items || len(q.Where) > 1 {
			return false
		}
	}
	return true
}

func isOperator(op int) bool {
	return api.OpOr <= op && op <= api.OpMod
}

// operation returns the type of e, whose arguments have these types.
func operation(e api.Expr, args []int) (int, api.Errno) {
	switch {
	case isLogic(e):
		return give(api.Bool, args, api.Bool)
	case isArithmetic(e):
		return give(api.Int, args, api.Int)
	}
	return give(common(args), args, api.Bool) // IS NULL takes any type, as its one argument is always of one type
}

func isLogic(e api.Expr) bool {
	return e.Kind == api.ExprNot || e.Kind == api.ExprBinary && e.Op <= api.OpAnd
}

func isArithmetic(e api.Expr) bool {
	return e.Kind == api.ExprNegate || e.Kind == api.ExprBinary && e.Op >= api.OpAdd
}

// common returns the type of which all arguments are if they are of one type: that of the first one that is not NULL.
func common(args []int) int {
	for _, kind := range args {
		if kind != api.Null {
			return kind
		}
	}
	return api.Null
}

// give returns the type that an operation gives if all its arguments fit the type that it wants.
func give(wanted int, args []int, given int) (int, api.Errno) {
	for _, kind := range args {
		if !Assignable(wanted, kind) {
			return 0, api.ErrType
		}
	}
	return given, api.OK
}

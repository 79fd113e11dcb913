package syntax

import "triggerstore/api"

// The fields of an expression beside its kind, as the bits of a set, in the order of exprFilled.
const (
	exprOp = 1 << iota
	exprNot
	exprValue
	exprTable
	exprName
	exprArgs
	exprSub
)

// exprUses has the fields that a kind of expression uses.
var exprUses = [...]int{
	api.ExprLiteral: exprValue,
	api.ExprColumn:  exprTable | exprName,
	api.ExprNot:     exprArgs,
	api.ExprNegate:  exprArgs,
	api.ExprBinary:  exprOp | exprArgs,
	api.ExprIsNull:  exprNot | exprArgs,
	api.ExprBetween: exprArgs,
	api.ExprExists:  exprSub,
	api.ExprCount:   exprSub,
	api.ExprSum:     exprSub,
	api.ExprMin:     exprSub,
	api.ExprMax:     exprSub,
}

// The fields of an action beside its kind, as the bits of a set, in the order of actionFilled.
const (
	actionTable = 1 << iota
	actionRows
	actionQuery
	actionSets
	actionWhere
	actionText
)

// actionUses has the fields that a kind of action uses.
var actionUses = [...]int{
	api.ActInsert: actionTable | actionRows | actionQuery,
	api.ActUpdate: actionTable | actionSets | actionWhere,
	api.ActDelete: actionTable | actionWhere,
	api.ActAbort:  actionText,
	api.ActSet:    actionSets,
}

// The fields of a statement beside its kind, as the bits of a set, in the order of statementFilled.
const (
	statementSchema = 1 << iota
	statementName
	statementTrigger
	statementQuery
	statementAction
)

// statementUses has the field that a kind of statement uses.
var statementUses = [...]int{
	api.StmtCreateTable:   statementSchema,
	api.StmtDropTable:     statementName,
	api.StmtCreateTrigger: statementTrigger,
	api.StmtDropTrigger:   statementName,
	api.StmtSelect:        statementQuery,
	api.StmtChange:        statementAction,
}

// set returns the set of the bits whose answers are true, where the first answer is that of the least bit.
func set(answers ...bool) int {
	bits := 0
	for i, yes := range answers {
		if yes {
			bits |= 1 << i
		}
	}
	return bits
}

// exprSpare reports whether e fills a field that its kind does not use, or has a kind that does not exist.
func exprSpare(e api.Expr) bool {
	return e.Kind < 1 || e.Kind >= len(exprUses) || exprFilled(e)&^exprUses[e.Kind] != 0
}

func exprFilled(e api.Expr) int {
	return set(e.Op != 0, e.Not, e.Value != api.Value{}, e.Table != "", e.Name != "", len(e.Args) > 0, len(e.Sub) > 0)
}

// actionSpare reports whether a fills a field that its kind does not use, or has a kind that does not exist.
func actionSpare(a api.Action) bool {
	return a.Kind < 1 || a.Kind >= len(actionUses) || actionFilled(a)&^actionUses[a.Kind] != 0
}

func actionFilled(a api.Action) int {
	return set(a.Table != "", len(a.Rows) > 0, len(a.Query) > 0, len(a.Sets) > 0, len(a.Where) > 0, a.Text != "")
}

// statementSpare reports whether s fills a field that its kind does not use, or has a kind that does not exist.
func statementSpare(s api.Statement) bool {
	return s.Kind < 1 || s.Kind >= len(statementUses) || statementFilled(s)&^statementUses[s.Kind] != 0
}

func statementFilled(s api.Statement) int {
	return set(s.Schema.Name != "" || len(s.Schema.Columns) > 0, s.Name != "", triggerFilled(s.Trigger), queryFilled(s.Query), s.Action.Kind != 0 || actionFilled(s.Action) != 0)
}

func triggerFilled(t api.Trigger) bool {
	return t.Name != "" || t.Table != "" || t.Before || t.Event != 0 || len(t.Of) > 0 || t.EachRow ||
		len(t.Precedes) > 0 || len(t.Follows) > 0 || len(t.Rank) > 0 || len(t.When) > 0 || len(t.Actions) > 0
}

func queryFilled(q api.Query) bool {
	return q.Star || len(q.Items) > 0 || q.From != "" || len(q.Where) > 0
}

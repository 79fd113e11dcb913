package parse

import (
	"math"
	"testing"

	"triggerstore/api"
)

func selection(q api.Query) api.Statement { return api.Statement{Kind: api.StmtSelect, Query: q} }

func change(x api.Action) api.Statement { return api.Statement{Kind: api.StmtChange, Action: x} }

func newTable(name string, columns ...api.Column) api.Statement {
	return api.Statement{Kind: api.StmtCreateTable, Schema: api.Schema{Name: name, Columns: columns}}
}

func set(column string, e api.Expr) api.Set { return api.Set{Column: column, Expr: e} }

func insert(rows ...[]api.Expr) api.Action {
	return api.Action{Kind: api.ActInsert, Table: "t", Rows: rows}
}

func insertFrom(q api.Query) api.Action {
	return api.Action{Kind: api.ActInsert, Table: "t", Query: []api.Query{q}}
}

func update(sets ...api.Set) api.Action {
	return api.Action{Kind: api.ActUpdate, Table: "t", Sets: sets}
}

func remove(where ...api.Expr) api.Action {
	return api.Action{Kind: api.ActDelete, Table: "t", Where: where}
}

func abort(s string) api.Action { return api.Action{Kind: api.ActAbort, Text: s} }

func assign(s api.Set) api.Action { return api.Action{Kind: api.ActSet, Sets: []api.Set{s}} }

// P13.1: a new table with each type and each property of a column; a key is not null.
func TestCreateTable(t *testing.T) {
	expectStatements(t, []parsed[api.Statement]{
		{"CREATE TABLE t (a INT)", newTable("t", api.Column{Name: "a", Type: api.Int})},
		{"CREATE TABLE t (a BOOL)", newTable("t", api.Column{Name: "a", Type: api.Bool})},
		{"CREATE TABLE t (a TEXT)", newTable("t", api.Column{Name: "a", Type: api.Text})},
		{"CREATE TABLE t (a TEXT NOT NULL)", newTable("t", api.Column{Name: "a", Type: api.Text, NotNull: true})},
		{"CREATE TABLE t (a BOOL PRIMARY KEY)", newTable("t", api.Column{Name: "a", Type: api.Bool, NotNull: true, Key: true})},
		{"CREATE TABLE " + long + " (b INT NOT NULL, a INT PRIMARY KEY, " + long + " TEXT)", newTable(long,
			api.Column{Name: "b", Type: api.Int, NotNull: true}, api.Column{Name: "a", Type: api.Int, NotNull: true, Key: true}, api.Column{Name: long, Type: api.Text})},
	}...)
}

// P13.1: drops and selects.
func TestDropAndSelect(t *testing.T) {
	expectStatements(t, []parsed[api.Statement]{
		{"DROP TABLE t", api.Statement{Kind: api.StmtDropTable, Name: "t"}},
		{"DROP TRIGGER " + long, api.Statement{Kind: api.StmtDropTrigger, Name: long}},
		{"SELECT * FROM t", selection(all())},
		{"SELECT * FROM t WHERE a OR b", selection(all(join(api.OpOr, a, b)))},
		{"SELECT a FROM t", selection(items(a))},
		{"SELECT a = b, NOT a, 5 FROM t", selection(items(join(api.OpEq, a, b), not(a), number(5)))},
		{"SELECT a, b FROM INSERTED", selection(api.Query{From: "INSERTED", Items: []api.Expr{a, b}})},
		{"SELECT * FROM DELETED WHERE DELETED.a", selection(api.Query{Star: true, From: "DELETED", Where: []api.Expr{column("DELETED.a")}})},
		{"SELECT (SELECT COUNT (*) FROM t), a * b FROM t", selection(items(over(api.ExprCount, items()), join(api.OpMul, a, b)))},
	}...)
}

// P13.1: inserts, updates and deletes.
func TestChanges(t *testing.T) {
	limited := update(set("a", join(api.OpEq, a, b)), set(long, isNull(b)))
	limited.Where = []api.Expr{join(api.OpAnd, a, b)}
	expectStatements(t, []parsed[api.Statement]{
		{"INSERT INTO t VALUES (a)", change(insert([]api.Expr{a}))},
		{"INSERT INTO t VALUES (1, 'x', NULL), (a), (b, TRUE)", change(insert([]api.Expr{number(1), words("x"), literal(api.Value{})}, []api.Expr{a}, []api.Expr{b, truth(1)}))},
		{"INSERT INTO t VALUES ((SELECT SUM (a) FROM t))", change(insert([]api.Expr{over(api.ExprSum, items(a))}))},
		{"INSERT INTO t SELECT * FROM t", change(insertFrom(all()))},
		{"INSERT INTO t SELECT a, b FROM DELETED WHERE c", change(insertFrom(api.Query{From: "DELETED", Items: []api.Expr{a, b}, Where: []api.Expr{c}}))},
		{"UPDATE t SET a = b", change(update(set("a", b)))},
		{"UPDATE t SET a = a = b, " + long + " = b IS NULL WHERE a AND b", change(limited)},
		{"DELETE FROM t", change(remove())},
		{"DELETE FROM t WHERE a BETWEEN b AND c", change(remove(between(a, b, c)))},
	}...)
}

// expectTrigger checks a trigger that differs by a change from one without the parts that it need not have; middle is what its text has between its name and its actions.
func expectTrigger(t *testing.T, middle string, change func(x *api.Trigger)) {
	t.Helper()
	x := api.Trigger{Name: "r", Table: "t", Event: api.Insert, Actions: []api.Action{abort("no")}}
	change(&x)
	expectStatements(t, parsed[api.Statement]{"CREATE TRIGGER r " + middle + " BEGIN ABORT 'no'; END", api.Statement{Kind: api.StmtCreateTrigger, Trigger: x}})
}

// P13.1: a trigger has a time, an event and a unit.
func TestTriggerKinds(t *testing.T) {
	for event, name := range map[int]string{api.Insert: "INSERT", api.Update: "UPDATE", api.Delete: "DELETE"} {
		expectTrigger(t, "AFTER "+name+" ON t FOR EACH STATEMENT", func(x *api.Trigger) { x.Event = event })
		expectTrigger(t, "AFTER "+name+" ON t FOR EACH ROW", func(x *api.Trigger) { x.Event, x.EachRow = event, true })
		expectTrigger(t, "BEFORE "+name+" ON t FOR EACH STATEMENT", func(x *api.Trigger) { x.Event, x.Before = event, true })
		expectTrigger(t, "BEFORE "+name+" ON t FOR EACH ROW", func(x *api.Trigger) { x.Event, x.Before, x.EachRow = event, true, true })
	}
}

// P13.1: each part that a trigger need not have.
func TestTriggerParts(t *testing.T) {
	const start = "AFTER INSERT ON t FOR EACH STATEMENT "
	expectTrigger(t, "AFTER UPDATE OF a ON t FOR EACH STATEMENT", func(x *api.Trigger) { x.Event, x.Of = api.Update, []string{"a"} })
	expectTrigger(t, "AFTER UPDATE OF c, a,b ON t FOR EACH STATEMENT", func(x *api.Trigger) { x.Event, x.Of = api.Update, []string{"c", "a", "b"} })
	expectTrigger(t, start+"PRECEDES p", func(x *api.Trigger) { x.Precedes = []string{"p"} })
	expectTrigger(t, start+"PRECEDES q, p, r", func(x *api.Trigger) { x.Precedes = []string{"q", "p", "r"} })
	expectTrigger(t, start+"FOLLOWS p", func(x *api.Trigger) { x.Follows = []string{"p"} })
	expectTrigger(t, start+"FOLLOWS q, p", func(x *api.Trigger) { x.Follows = []string{"q", "p"} })
	expectTrigger(t, start+"PRECEDES p FOLLOWS q", func(x *api.Trigger) { x.Precedes, x.Follows = []string{"p"}, []string{"q"} })
	expectTrigger(t, start+"WHEN (a)", func(x *api.Trigger) { x.When = []api.Expr{a} })
	expectTrigger(t, start+"WHEN ((a))", func(x *api.Trigger) { x.When = []api.Expr{a} })
	expectTrigger(t, start+"WHEN (NEW.a < 3 OR b)", func(x *api.Trigger) {
		x.When = []api.Expr{join(api.OpOr, join(api.OpLt, column("NEW.a"), number(3)), b)}
	})
	expectTrigger(t, start+"WHEN ((SELECT COUNT (*) FROM t) = 1)", func(x *api.Trigger) {
		x.When = []api.Expr{join(api.OpEq, over(api.ExprCount, items()), number(1))}
	})
}

// P13.1: the limits of a certificate, with and without minus signs, up to the greatest number, and 0.
func TestRank(t *testing.T) {
	for _, x := range []struct {
		text      string
		low, high int64
	}{
		{"0 TO 0", 0, 0}, {"1 TO 10", 1, 10}, {"- 5 TO 5", -5, 5}, {"5 TO -5", 5, -5}, {"-10 TO-1", -10, -1},
		{"- 0 TO 0", 0, 0}, {"0 TO - 0", 0, 0}, {"- 0 TO - 0", 0, 0},
		{"- 9223372036854775807 TO 9223372036854775807", -math.MaxInt64, math.MaxInt64},
		{"9223372036854775807 TO - 9223372036854775807", math.MaxInt64, -math.MaxInt64},
	} {
		expectTrigger(t, "AFTER INSERT ON t FOR EACH STATEMENT RANK u.n FROM "+x.text, func(r *api.Trigger) {
			r.Rank = []api.Rank{{Table: "u", Column: "n", Low: x.low, High: x.high}}
		})
	}
}

// P13.1: the actions of a trigger, and all its parts in their order.
func TestWholeTriggers(t *testing.T) {
	all := api.Trigger{Name: long, Table: "t", Event: api.Update, EachRow: true, Of: []string{"a", "b"}, Precedes: []string{"p", "q"}, Follows: []string{"f", "g"},
		Rank: []api.Rank{{Table: "u", Column: "n", Low: -1, High: 1}}, When: []api.Expr{not(a)},
		Actions: []api.Action{insert([]api.Expr{a}, []api.Expr{b}), update(set("a", b)), remove(a), abort("it's; END")}}
	before := api.Trigger{Name: "r", Table: "t", Before: true, Event: api.Insert, EachRow: true,
		Actions: []api.Action{assign(set("a", join(api.OpEq, a, b))), abort("")}}
	copied := api.Trigger{Name: "r", Table: "t", Event: api.Delete,
		Actions: []api.Action{insertFrom(api.Query{Star: true, From: "DELETED", Where: []api.Expr{a}})}}
	expectStatements(t, []parsed[api.Statement]{
		{"CREATE TRIGGER " + long + " AFTER UPDATE OF a, b ON t FOR EACH ROW PRECEDES p, q FOLLOWS f, g RANK u.n FROM - 1 TO 1 WHEN (NOT a) BEGIN INSERT INTO t VALUES (a), (b); UPDATE t SET a = b; DELETE FROM t WHERE a; ABORT 'it''s; END'; END", api.Statement{Kind: api.StmtCreateTrigger, Trigger: all}},
		{"CREATE TRIGGER r BEFORE INSERT ON t FOR EACH ROW BEGIN SET NEW.a = a = b; ABORT ''; END", api.Statement{Kind: api.StmtCreateTrigger, Trigger: before}},
		{"CREATE TRIGGER r AFTER DELETE ON t FOR EACH STATEMENT BEGIN INSERT INTO t SELECT * FROM DELETED WHERE a; END", api.Statement{Kind: api.StmtCreateTrigger, Trigger: copied}},
	}...)
}

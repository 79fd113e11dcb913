package print

import (
	"math"
	"testing"

	"triggerstore/api"
)

func selection(q api.Query) api.Statement { return api.Statement{Kind: api.StmtSelect, Query: q} }

func change(x api.Action) api.Statement { return api.Statement{Kind: api.StmtChange, Action: x} }

func creation(x api.Trigger) api.Statement {
	return api.Statement{Kind: api.StmtCreateTrigger, Trigger: x}
}

func newTable(name string, columns ...api.Column) api.Statement {
	return api.Statement{Kind: api.StmtCreateTable, Schema: api.Schema{Name: name, Columns: columns}}
}

func set(column string, e api.Expr) api.Set { return api.Set{Column: column, Expr: e} }

func insert(rows ...[]api.Expr) api.Action {
	return api.Action{Kind: api.ActInsert, Table: "t", Rows: rows}
}

func insertFrom(q api.Query) api.Action {
	return api.Action{Kind: api.ActInsert, Table: "t", Query: []api.Query{q}}
}

func update(sets ...api.Set) api.Action {
	return api.Action{Kind: api.ActUpdate, Table: "t", Sets: sets}
}

func remove(where ...api.Expr) api.Action {
	return api.Action{Kind: api.ActDelete, Table: "t", Where: where}
}

func abort(s string) api.Action { return api.Action{Kind: api.ActAbort, Text: s} }

func assign(s api.Set) api.Action { return api.Action{Kind: api.ActSet, Sets: []api.Set{s}} }

// P12.2: a new table has its types, and a key column PRIMARY KEY only.
func TestCreateTable(t *testing.T) {
	expectStatements(t, []written[api.Statement]{
		{newTable("t", api.Column{Name: "a", Type: api.Int}), "CREATE TABLE t (a INT)"},
		{newTable("t", api.Column{Name: "a", Type: api.Bool}), "CREATE TABLE t (a BOOL)"},
		{newTable("t", api.Column{Name: "a", Type: api.Text}), "CREATE TABLE t (a TEXT)"},
		{newTable("t", api.Column{Name: "a", Type: api.Text, NotNull: true}), "CREATE TABLE t (a TEXT NOT NULL)"},
		{newTable("t", api.Column{Name: "a", Type: api.Text, NotNull: true, Key: true}), "CREATE TABLE t (a TEXT PRIMARY KEY)"},
		{newTable(long, api.Column{Name: "a", Type: api.Int}, api.Column{Name: "b", Type: api.Bool, NotNull: true}, api.Column{Name: "c", Type: api.Int, NotNull: true, Key: true}, api.Column{Name: "d", Type: api.Text}),
			"CREATE TABLE " + long + " (a INT, b BOOL NOT NULL, c INT PRIMARY KEY, d TEXT)"},
	}...)
}

// P12.2: tables and triggers are dropped.
func TestDrop(t *testing.T) {
	expectStatements(t, []written[api.Statement]{
		{api.Statement{Kind: api.StmtDropTable, Name: "t"}, "DROP TABLE t"},
		{api.Statement{Kind: api.StmtDropTrigger, Name: "t"}, "DROP TRIGGER t"},
	}...)
}

// P12.2: a select has all columns or items, and a condition or none.
func TestSelect(t *testing.T) {
	expectStatements(t, []written[api.Statement]{
		{selection(all()), "SELECT * FROM t"},
		{selection(all(join(api.OpOr, a, b))), "SELECT * FROM t WHERE a OR b"},
		{selection(one(a)), "SELECT a FROM t"},
		{selection(one(a, join(api.OpOr, a, b), over(api.ExprCount, count()))), "SELECT a, a OR b, (SELECT COUNT (*) FROM t) FROM t"},
		{selection(one(a, a, a, a, a, a, a, a)), "SELECT a, a, a, a, a, a, a, a FROM t"},
		{selection(api.Query{From: "INSERTED", Items: list(negate(a)), Where: list(b)}), "SELECT - a FROM INSERTED WHERE b"},
		{selection(api.Query{From: "DELETED", Star: true}), "SELECT * FROM DELETED"},
	}...)
}

// P12.2: an insert has rows or a query.
func TestInsert(t *testing.T) {
	expectStatements(t, []written[api.Statement]{
		{change(insert(list(a))), "INSERT INTO t VALUES (a)"},
		{change(insert(list(a, number(1)), list(words("b")))), "INSERT INTO t VALUES (a, 1), ('b')"},
		{change(insert(list(join(api.OpAdd, a, b), not(c), negate(number(1))))), "INSERT INTO t VALUES (a + b, NOT c, - 1)"},
		{change(insert(list(join(api.OpMul, join(api.OpAdd, a, b), c)), list(over(api.ExprSum, one(a))))), "INSERT INTO t VALUES ((a + b) * c), ((SELECT SUM (a) FROM t))"},
		{change(insertFrom(all())), "INSERT INTO t SELECT * FROM t"},
		{change(insertFrom(api.Query{From: "DELETED", Items: list(a, b), Where: list(c)})), "INSERT INTO t SELECT a, b FROM DELETED WHERE c"},
	}...)
}

// P12.2: an update has assignments, and, like a delete, a condition or none.
func TestUpdateAndDelete(t *testing.T) {
	limited := update(set("a", join(api.OpEq, a, b)), set(long, isNull(b)), set("c", literal(api.Value{})))
	limited.Where = list(join(api.OpAnd, a, b))
	expectStatements(t, []written[api.Statement]{
		{change(update(set("a", b))), "UPDATE t SET a = b"},
		{change(limited), "UPDATE t SET a = a = b, " + long + " = b IS NULL, c = NULL WHERE a AND b"},
		{change(remove()), "DELETE FROM t"},
		{change(remove(between(a, b, c))), "DELETE FROM t WHERE a BETWEEN b AND c"},
	}...)
}

// base returns a trigger without parts that it need not have.
func base() api.Trigger {
	return api.Trigger{Name: "r", Table: "t", Event: api.Insert, Actions: []api.Action{abort("no")}}
}

// expectTrigger checks the text of a trigger that differs from base by a change: between its name and its actions, if these are not changed.
func expectTrigger(t *testing.T, middle string, change func(x *api.Trigger)) {
	t.Helper()
	x := base()
	change(&x)
	expectStatements(t, written[api.Statement]{creation(x), "CREATE TRIGGER r " + middle + " BEGIN ABORT 'no'; END"})
}

// P12.2: a trigger has a time, an event and a unit.
func TestTriggerKinds(t *testing.T) {
	for event, name := range map[int]string{api.Insert: "INSERT", api.Update: "UPDATE", api.Delete: "DELETE"} {
		expectTrigger(t, "AFTER "+name+" ON t FOR EACH STATEMENT", func(x *api.Trigger) { x.Event = event })
		expectTrigger(t, "AFTER "+name+" ON t FOR EACH ROW", func(x *api.Trigger) { x.Event, x.EachRow = event, true })
		expectTrigger(t, "BEFORE "+name+" ON t FOR EACH STATEMENT", func(x *api.Trigger) { x.Event, x.Before = event, true })
		expectTrigger(t, "BEFORE "+name+" ON t FOR EACH ROW", func(x *api.Trigger) { x.Event, x.Before, x.EachRow = event, true, true })
	}
}

// P12.2: each part that a trigger need not have, alone, with one element and with several ones.
func TestTriggerParts(t *testing.T) {
	const start = "AFTER INSERT ON t FOR EACH STATEMENT "
	expectTrigger(t, "AFTER UPDATE OF a ON t FOR EACH STATEMENT", func(x *api.Trigger) { x.Event, x.Of = api.Update, []string{"a"} })
	expectTrigger(t, "AFTER UPDATE OF c, a, b ON t FOR EACH STATEMENT", func(x *api.Trigger) { x.Event, x.Of = api.Update, []string{"c", "a", "b"} })
	expectTrigger(t, start+"PRECEDES p", func(x *api.Trigger) { x.Precedes = []string{"p"} })
	expectTrigger(t, start+"PRECEDES q, p, r", func(x *api.Trigger) { x.Precedes = []string{"q", "p", "r"} })
	expectTrigger(t, start+"FOLLOWS p", func(x *api.Trigger) { x.Follows = []string{"p"} })
	expectTrigger(t, start+"FOLLOWS q, p, r", func(x *api.Trigger) { x.Follows = []string{"q", "p", "r"} })
	expectTrigger(t, start+"PRECEDES p FOLLOWS q", func(x *api.Trigger) { x.Precedes, x.Follows = []string{"p"}, []string{"q"} })
	expectTrigger(t, start+"WHEN (a)", func(x *api.Trigger) { x.When = list(a) })
	expectTrigger(t, start+"WHEN (NEW.a < 3 OR b)", func(x *api.Trigger) {
		x.When = list(join(api.OpOr, join(api.OpLt, qualified("NEW", "a"), number(3)), b))
	})
	expectTrigger(t, start+"WHEN (EXISTS (SELECT * FROM t))", func(x *api.Trigger) { x.When = list(over(api.ExprExists, all())) })
}

// P12.2: the limits of a certificate, with minus signs that are tokens of their own.
func TestRank(t *testing.T) {
	for _, x := range []struct {
		low, high int64
		want      string
	}{
		{0, 0, "FROM 0 TO 0"},
		{1, 10, "FROM 1 TO 10"},
		{-5, 5, "FROM - 5 TO 5"},
		{5, -5, "FROM 5 TO - 5"},
		{-10, -1, "FROM - 10 TO - 1"},
		{-math.MaxInt64, math.MaxInt64, "FROM - 9223372036854775807 TO 9223372036854775807"},
		{math.MaxInt64, -math.MaxInt64, "FROM 9223372036854775807 TO - 9223372036854775807"},
	} {
		expectTrigger(t, "AFTER INSERT ON t FOR EACH STATEMENT RANK u.n "+x.want, func(r *api.Trigger) {
			r.Rank = []api.Rank{{Table: "u", Column: "n", Low: x.low, High: x.high}}
		})
	}
}

// P12.2: the actions of a trigger, each with a semicolon behind it.
func TestActions(t *testing.T) {
	after := base()
	after.Actions = []api.Action{insert(list(a), list(b)), update(set("a", b)), remove(a), abort("it's; no")}
	queries := base()
	queries.Actions = []api.Action{insertFrom(all(a))}
	before := base()
	before.Before, before.EachRow = true, true
	before.Actions = []api.Action{assign(set("a", join(api.OpEq, a, b))), abort("")}
	expectStatements(t, []written[api.Statement]{
		{creation(after), "CREATE TRIGGER r AFTER INSERT ON t FOR EACH STATEMENT BEGIN INSERT INTO t VALUES (a), (b); UPDATE t SET a = b; DELETE FROM t WHERE a; ABORT 'it''s; no'; END"},
		{creation(queries), "CREATE TRIGGER r AFTER INSERT ON t FOR EACH STATEMENT BEGIN INSERT INTO t SELECT * FROM t WHERE a; END"},
		{creation(before), "CREATE TRIGGER r BEFORE INSERT ON t FOR EACH ROW BEGIN SET NEW.a = a = b; ABORT ''; END"},
	}...)
}

// P12.2: all parts of a trigger in their order.
func TestWholeTrigger(t *testing.T) {
	x := api.Trigger{Name: long, Table: "t", Event: api.Update, EachRow: true, Of: []string{"a", "b"}, Precedes: []string{"p", "q"}, Follows: []string{"f", "g"},
		Rank: []api.Rank{{Table: "u", Column: "n", Low: -1, High: 1}}, When: list(not(a)), Actions: []api.Action{remove()}}
	expectStatements(t, written[api.Statement]{creation(x), "CREATE TRIGGER " + long +
		" AFTER UPDATE OF a, b ON t FOR EACH ROW PRECEDES p, q FOLLOWS f, g RANK u.n FROM - 1 TO 1 WHEN (NOT a) BEGIN DELETE FROM t; END"})
}

// changed returns a creation of base after a change.
func changed(change func(x *api.Trigger)) api.Statement {
	x := base()
	change(&x)
	return creation(x)
}

// P12.3: a statement that is not well-formed has no text, wherever the reason is.
func TestBadStatements(t *testing.T) {
	for i, s := range []api.Statement{
		{}, {Kind: -1}, {Kind: 7, Name: "t"}, {Kind: math.MaxInt}, {Kind: math.MinInt}, {Kind: api.StmtDropTable}, {Kind: api.StmtDropTrigger, Name: "A"},
		{Kind: api.StmtDropTable, Name: "t", Query: all()}, {Kind: api.StmtCreateTrigger}, {Kind: api.StmtSelect}, {Kind: api.StmtChange},
		newTable("t"), newTable("t", api.Column{Name: "a"}), newTable("t", api.Column{Name: "a", Type: 4}), newTable("t", api.Column{Name: "a", Type: -1}),
		newTable("t", api.Column{Name: "a", Type: api.Int, Key: true}),
		selection(count()), selection(one(bad)), selection(all(bad)), selection(all(a, b)), selection(one(a, a, a, a, a, a, a, a, a)),
		change(insert()), change(insert(nil)), change(insert(list(bad))), change(insertFrom(count())), change(update()), change(update(set("a", bad))),
		change(update(set("a", a), set("a", b))), change(remove(bad)), change(abort("no")), change(assign(set("a", b))), change(api.Action{Kind: 6, Table: "t"}),
		changed(func(x *api.Trigger) { x.Event = 0 }), changed(func(x *api.Trigger) { x.Event = 4 }), changed(func(x *api.Trigger) { x.Event = -1 }),
		changed(func(x *api.Trigger) { x.Of = []string{"a"} }), changed(func(x *api.Trigger) { x.Actions = nil }), changed(func(x *api.Trigger) { x.When = list(bad) }),
		changed(func(x *api.Trigger) { x.Rank = []api.Rank{{Table: "t", Column: "a", Low: math.MinInt64}} }),
		changed(func(x *api.Trigger) { x.Rank = []api.Rank{{Table: "t", Column: "a", High: math.MinInt64}} }),
		changed(func(x *api.Trigger) { x.Actions = []api.Action{assign(set("a", b))} }), changed(func(x *api.Trigger) { x.Actions = []api.Action{abort("\n")} }),
	} {
		if got, ok := Statement(s); got != "" || ok {
			t.Errorf("%d: %q, %v", i, got, ok)
		}
	}
}

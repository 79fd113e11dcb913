package syntax

import (
	"fmt"
	"math"
	"reflect"
	"slices"
	"strings"
	"testing"

	"triggerstore/api"
)

func literal(v api.Value) api.Expr { return api.Expr{Kind: api.ExprLiteral, Value: v} }

func number(n int64) api.Expr { return literal(api.Value{Kind: api.Int, Int: n}) }

func words(s string) api.Expr { return literal(api.Value{Kind: api.Text, Text: s}) }

func column(name string) api.Expr { return api.Expr{Kind: api.ExprColumn, Name: name} }

func qualified(table, name string) api.Expr {
	return api.Expr{Kind: api.ExprColumn, Table: table, Name: name}
}

// with returns an expression of a kind with arguments.
func with(kind int, args ...api.Expr) api.Expr { return api.Expr{Kind: kind, Args: args} }

func not(e api.Expr) api.Expr { return with(api.ExprNot, e) }

func negate(e api.Expr) api.Expr { return with(api.ExprNegate, e) }

func isNull(e api.Expr) api.Expr { return with(api.ExprIsNull, e) }

func between(a, b, c api.Expr) api.Expr { return with(api.ExprBetween, a, b, c) }

func join(op int, a, b api.Expr) api.Expr {
	return api.Expr{Kind: api.ExprBinary, Op: op, Args: []api.Expr{a, b}}
}

// over returns an expression of a kind with queries.
func over(kind int, l ...api.Query) api.Expr { return api.Expr{Kind: kind, Sub: l} }

func list(l ...api.Expr) []api.Expr { return l }

// all returns a query of all columns of t, one returns one with items.
func all(where ...api.Expr) api.Query { return api.Query{Star: true, From: "t", Where: where} }

func one(items ...api.Expr) api.Query { return api.Query{From: "t", Items: items} }

var (
	a    = column("a")
	five = number(5)
	bad  = api.Expr{Kind: api.ExprLiteral, Value: api.Value{Kind: api.Int, Int: -1}}
	// long and tooLong are names with the most bytes and with one more.
	long    = strings.Repeat("z", api.MaxName)
	tooLong = strings.Repeat("z", api.MaxName+1)
)

// badNames has texts that are no names. Keywords are none either.
var badNames = []string{"", "A", "1", "_a", "a b", "a.b", "NEW", "INSERTED", "SELECT", tooLong}

// names returns so many different names.
func names(amount int) []string {
	var l []string
	for i := range amount {
		l = append(l, fmt.Sprint("n", i))
	}
	return l
}

// changed returns x after a change.
func changed[T any](x T, change func(x *T)) T {
	change(&x)
	return x
}

// expectAll checks that f has one answer for all elements.
func expectAll[T any](t *testing.T, f func(T) bool, want bool, l ...T) {
	t.Helper()
	for i, x := range l {
		if f(x) != want {
			t.Errorf("the element %d is not %v: %+v", i, want, x)
		}
	}
}

// P11.1: literals have valid values that are not negative numbers.
func TestLiterals(t *testing.T) {
	expectAll(t, ValidExpr, true,
		number(0), number(1), number(math.MaxInt64), literal(api.Value{}),
		literal(api.Value{Kind: api.Bool}), literal(api.Value{Kind: api.Bool, Int: 1}),
		words(""), words("it's"), words(strings.Repeat("~", api.MaxBytes)))
	expectAll(t, ValidExpr, false,
		number(-1), number(math.MinInt64), literal(api.Value{Int: 1}), literal(api.Value{Text: "a"}),
		literal(api.Value{Kind: api.Int, Int: 1, Text: "1"}),
		literal(api.Value{Kind: api.Bool, Int: 2}), literal(api.Value{Kind: api.Bool, Int: -1}),
		literal(api.Value{Kind: api.Text, Int: 1, Text: "a"}), words("\n"), words("\x7f"), words("\u00e4"),
		words(strings.Repeat("~", api.MaxBytes+1)),
		literal(api.Value{Kind: 4}), literal(api.Value{Kind: -1}), literal(api.Value{Kind: math.MaxInt}))
}

// P11.1: columns, with and without qualifiers.
func TestColumns(t *testing.T) {
	expectAll(t, ValidExpr, true,
		a, column("select"), column(long), qualified("t", "a"), qualified("a", "a"), qualified("new", "a"), qualified(long, long),
		qualified("NEW", "a"), qualified("OLD", "a"), qualified("INSERTED", "a"), qualified("DELETED", "a"))
	for _, s := range badNames {
		expectAll(t, ValidExpr, false, column(s), qualified("t", s), qualified("NEW", s))
	}
	for _, s := range []string{"A", "1", "_a", "a b", tooLong, "New", "NEW ", "INSERT", "DELETE", "UPDATED", "SELECT", "NEW.a"} {
		expectAll(t, ValidExpr, false, qualified(s, "a"))
	}
}

// P11.1: operators and the numbers of arguments.
func TestOperators(t *testing.T) {
	for kind, amount := range map[int]int{api.ExprNot: 1, api.ExprNegate: 1, api.ExprIsNull: 1, api.ExprBinary: 2, api.ExprBetween: 3} {
		for length := range 6 {
			e := with(kind, slices.Repeat(list(a), length)...)
			if kind == api.ExprBinary {
				e.Op = api.OpAdd
			}
			expectAll(t, ValidExpr, length == amount, e)
			for place := range length {
				e.Args = slices.Repeat(list(a), length)
				e.Args[place] = bad
				expectAll(t, ValidExpr, false, e)
			}
		}
	}
	for op := -3; op <= 20; op++ {
		expectAll(t, ValidExpr, op >= 1 && op <= 13, join(op, a, five))
	}
	expectAll(t, ValidExpr, false, join(math.MaxInt, a, a), join(math.MinInt, a, a))
	expectAll(t, ValidExpr, true,
		changed(isNull(a), func(e *api.Expr) { e.Not = true }),
		not(not(negate(negate(five)))), join(api.OpOr, not(a), between(a, five, isNull(a))))
	for _, kind := range []int{0, -1, 13, 14, math.MaxInt, math.MinInt} {
		expectAll(t, ValidExpr, false, with(kind), with(kind, a), over(kind, one()), api.Expr{Kind: kind, Name: "a"})
	}
}

// P11.1: the queries of EXISTS and of aggregates.
func TestSubqueries(t *testing.T) {
	good := map[int]api.Query{api.ExprExists: all(), api.ExprCount: one(), api.ExprSum: one(a), api.ExprMin: one(a), api.ExprMax: one(a)}
	for kind, right := range good {
		for shape, q := range []api.Query{all(), one(), one(a)} {
			want := kind == api.ExprExists && shape == 0 || kind == api.ExprCount && shape == 1 || kind > api.ExprCount && shape == 2
			expectAll(t, ValidExpr, want, over(kind, q))
		}
		starred := one(a)
		starred.Star = true
		expectAll(t, ValidExpr, false, over(kind), over(kind, right, right), over(kind, one(a, a)), over(kind, starred), over(kind, one(bad)))
		for _, from := range []string{"t", "a", long, "INSERTED", "DELETED"} {
			right.From = from
			expectAll(t, ValidExpr, true, over(kind, right))
		}
		for _, from := range []string{"", "T", "NEW", "OLD", "inserteD", "SELECT", tooLong} {
			right.From = from
			expectAll(t, ValidExpr, false, over(kind, right))
		}
		right.From = "t"
		for _, where := range [][]api.Expr{{}, {a}, {five}, {not(over(api.ExprExists, all(a)))}} {
			right.Where = where
			expectAll(t, ValidExpr, true, over(kind, right))
		}
		for _, where := range [][]api.Expr{{bad}, {{}}, {a, a}, {not(bad)}, {over(api.ExprExists, all(bad))}} {
			right.Where = where
			expectAll(t, ValidExpr, false, over(kind, right))
		}
	}
}

// P11.2: what a select reads.
func TestQueries(t *testing.T) {
	for amount := range 20 {
		items := slices.Repeat(list(a), amount)
		expectAll(t, ValidQuery, amount >= 1 && amount <= 8, one(items...))
		q := all()
		q.Items = items
		expectAll(t, ValidQuery, amount == 0, q)
	}
	expectAll(t, ValidQuery, true, all(a), one(a, five, not(a)), one(over(api.ExprCount, one())))
	expectAll(t, ValidQuery, false, api.Query{}, one(bad), one(a, a, bad), all(bad), all(a, a), all(a, a, a))
	for _, from := range []string{"t", long, "INSERTED", "DELETED"} {
		expectAll(t, ValidQuery, true, api.Query{Star: true, From: from}, api.Query{Items: list(a), From: from, Where: list(a)})
	}
	for _, from := range []string{"", "T", "NEW", "OLD", "INSERT", "t u", tooLong} {
		expectAll(t, ValidQuery, false, api.Query{Star: true, From: from}, api.Query{Items: list(a), From: from, Where: list(a)})
	}
}

func insert(rows ...[]api.Expr) api.Action {
	return api.Action{Kind: api.ActInsert, Table: "t", Rows: rows}
}

func insertFrom(l ...api.Query) api.Action {
	return api.Action{Kind: api.ActInsert, Table: "t", Query: l}
}

func update(sets ...api.Set) api.Action {
	return api.Action{Kind: api.ActUpdate, Table: "t", Sets: sets}
}

func remove(where ...api.Expr) api.Action {
	return api.Action{Kind: api.ActDelete, Table: "t", Where: where}
}

func abort(text string) api.Action { return api.Action{Kind: api.ActAbort, Text: text} }

func assign(column string) api.Action {
	return api.Action{Kind: api.ActSet, Sets: []api.Set{{Column: column, Expr: five}}}
}

// sets returns assignments to columns.
func sets(columns ...string) []api.Set {
	var l []api.Set
	for _, c := range columns {
		l = append(l, api.Set{Column: c, Expr: a})
	}
	return l
}

// actions has a well-formed action of each kind, with all parts that it can have.
func actions() []api.Action {
	updated := update(sets("a", "b")...)
	updated.Where = list(a)
	return []api.Action{insert(list(a, five), list(five)), insertFrom(all(a)), updated, remove(a), abort("no"), assign("a")}
}

// P11.3: inserts of rows and of queries.
func TestInserts(t *testing.T) {
	for rows := range 12 {
		for columns := range 9 {
			row := slices.Repeat(list(a), columns)
			expectAll(t, ValidAction, rows >= 1 && rows <= 8 && columns >= 1 && columns <= 6, insert(slices.Repeat([][]api.Expr{row}, rows)...))
		}
	}
	expectAll(t, ValidAction, true, insert(list(a), list(a, a)), insertFrom(all()), insertFrom(one(a, five)), insertFrom(api.Query{Star: true, From: "INSERTED"}))
	expectAll(t, ValidAction, false,
		insert(list(a), nil), insert(nil, list(a)), insert(list(a), list(bad)), insert(list(five, five, bad)), insert(list(a), slices.Repeat(list(a), 7)),
		insertFrom(api.Query{}), insertFrom(one()), insertFrom(all(bad)), insertFrom(all(), all()), insertFrom(one(slices.Repeat(list(a), 9)...)),
		changed(insert(list(a)), func(a *api.Action) { a.Query = []api.Query{all()} }),
		changed(insert(list(a)), func(a *api.Action) { a.Query = []api.Query{{}} }))
}

// P11.3: updates, with different columns.
func TestUpdates(t *testing.T) {
	for amount := range 12 {
		expectAll(t, ValidAction, amount >= 1 && amount <= 8, update(sets(names(amount)...)...))
	}
	for first := range 8 {
		for second := range 8 {
			columns := names(8)
			columns[second] = columns[first]
			expectAll(t, ValidAction, first == second, update(sets(columns...)...))
		}
		columns, expressions := sets(names(8)...), sets(names(8)...)
		columns[first].Column, expressions[first].Expr = "A", bad
		expectAll(t, ValidAction, false, update(columns...), update(expressions...))
	}
	for _, s := range badNames {
		expectAll(t, ValidAction, false, update(sets(s)...), update(sets("a", s)...))
	}
	expectAll(t, ValidAction, false, update(api.Set{Column: "a"}), update(api.Set{Expr: a}))
}

// P11.3: the table and the condition of changes.
func TestTablesOfChanges(t *testing.T) {
	for _, x := range actions()[:4] {
		for _, s := range badNames {
			x.Table = s
			expectAll(t, ValidAction, false, x)
		}
		x.Table = long
		expectAll(t, ValidAction, true, x)
		if x.Kind == api.ActInsert {
			continue
		}
		for _, where := range [][]api.Expr{nil, {}, {a}, {not(five)}} {
			x.Where = where
			expectAll(t, ValidAction, true, x)
		}
		for _, where := range [][]api.Expr{{bad}, {{}}, {a, a}, {not(bad)}} {
			x.Where = where
			expectAll(t, ValidAction, false, x)
		}
	}
}

// P11.3: what only triggers do.
func TestAbortAndSet(t *testing.T) {
	expectAll(t, ValidAction, true, abort(""), abort("it's no"), abort(strings.Repeat("~", api.MaxBytes)), assign("a"), assign(long))
	expectAll(t, ValidAction, false, abort("\n"), abort("\u00e4"), abort(strings.Repeat("~", api.MaxBytes+1)))
	for _, s := range badNames {
		expectAll(t, ValidAction, false, assign(s))
	}
	for _, l := range [][]api.Set{nil, sets("a", "b"), sets("a", "a"), {{Column: "a", Expr: bad}}, {{Column: "a"}}} {
		expectAll(t, ValidAction, false, api.Action{Kind: api.ActSet, Sets: l})
	}
	for _, kind := range []int{0, 6, -1, math.MaxInt, math.MinInt} {
		expectAll(t, ValidAction, false, api.Action{Kind: kind}, api.Action{Kind: kind, Table: "t"})
	}
}

// after and before return triggers with one action and nothing that they can be without.
func after() api.Trigger {
	return api.Trigger{Name: "r", Table: "t", Event: api.Insert, Actions: []api.Action{remove()}}
}

func before() api.Trigger {
	return api.Trigger{Name: "r", Table: "t", Before: true, Event: api.Insert, Actions: []api.Action{abort("")}}
}

// P11.4: names of triggers, tables and other triggers.
func TestNamesOfTriggers(t *testing.T) {
	expectAll(t, ValidTrigger, true, after(), before())
	for _, r := range []api.Trigger{after(), before()} {
		for _, s := range badNames {
			expectAll(t, ValidTrigger, false,
				changed(r, func(r *api.Trigger) { r.Name = s }),
				changed(r, func(r *api.Trigger) { r.Table = s }),
				changed(r, func(r *api.Trigger) { r.Precedes = []string{s} }),
				changed(r, func(r *api.Trigger) { r.Follows = []string{"a", s} }),
				changed(r, func(r *api.Trigger) { r.Event, r.Of = api.Update, []string{s, "a"} }))
		}
		for amount := range 12 {
			l := names(amount)
			expectAll(t, ValidTrigger, amount <= 8,
				changed(r, func(r *api.Trigger) { r.Precedes = l }),
				changed(r, func(r *api.Trigger) { r.Follows = l }),
				changed(r, func(r *api.Trigger) { r.Event, r.Of = api.Update, l }))
		}
		// A name may be in several lists, but only once in each. What a trigger may precede is not a question of its form.
		expectAll(t, ValidTrigger, true, changed(r, func(r *api.Trigger) {
			r.Event, r.Of, r.Precedes, r.Follows = api.Update, names(8), names(8), append(names(7), "r")
		}))
		for _, l := range [][]string{{"a", "a"}, {"a", "b", "a"}, {"a", "b", "c", "d", "e", "f", "g", "a"}, {"a", "b", "c", "d", "e", "f", "g", "g"}} {
			expectAll(t, ValidTrigger, false,
				changed(r, func(r *api.Trigger) { r.Precedes = l }),
				changed(r, func(r *api.Trigger) { r.Follows = l }),
				changed(r, func(r *api.Trigger) { r.Event, r.Of = api.Update, l }))
		}
	}
}

// P11.4: events, of which only updates have columns.
func TestEvents(t *testing.T) {
	for _, r := range []api.Trigger{after(), before()} {
		for event := -2; event <= 6; event++ {
			r.Event, r.Of = event, nil
			expectAll(t, ValidTrigger, event >= 1 && event <= 3, r)
			r.Of = []string{"a"}
			expectAll(t, ValidTrigger, event == api.Update, r)
		}
		for _, event := range []int{math.MaxInt, math.MinInt} {
			r.Event, r.Of = event, nil
			expectAll(t, ValidTrigger, false, r)
		}
	}
}

// P11.4: certificates, which only AFTER triggers have.
func TestRanks(t *testing.T) {
	ranked := func(l ...api.Rank) api.Trigger {
		r := after()
		r.Rank = l
		return r
	}
	good := api.Rank{Table: "t", Column: "n", Low: 1, High: 10}
	limits := func(low, high int64) api.Rank { return api.Rank{Table: long, Column: long, Low: low, High: high} }
	least := int64(math.MinInt64)
	expectAll(t, ValidTrigger, true, ranked(good), ranked(limits(0, 0)), ranked(limits(5, -5)), ranked(limits(least+1, least+1)), ranked(limits(math.MaxInt64, math.MaxInt64)), ranked(limits(least+1, math.MaxInt64)))
	expectAll(t, ValidTrigger, false, ranked(good, good), ranked(good, api.Rank{}), ranked(api.Rank{}), ranked(limits(least, 0)), ranked(limits(0, least)), ranked(limits(least, least)))
	for _, s := range badNames {
		expectAll(t, ValidTrigger, false, ranked(api.Rank{Table: s, Column: "n"}), ranked(api.Rank{Table: "t", Column: s}))
	}
	expectAll(t, ValidTrigger, false, changed(before(), func(r *api.Trigger) { r.Rank = []api.Rank{good} }))
	for _, event := range []int{api.Insert, api.Update, api.Delete} {
		for _, eachRow := range []bool{false, true} {
			expectAll(t, ValidTrigger, true, changed(ranked(good), func(r *api.Trigger) { r.Event, r.EachRow = event, eachRow }))
		}
	}
}

// P11.4: conditions, and numbers of actions.
func TestWhenAndActions(t *testing.T) {
	for _, r := range []api.Trigger{after(), before()} {
		for _, when := range [][]api.Expr{nil, {}, {a}, {qualified("NEW", "a")}, {five}} {
			expectAll(t, ValidTrigger, true, changed(r, func(r *api.Trigger) { r.When = when }))
		}
		for _, when := range [][]api.Expr{{bad}, {{}}, {a, a}, {a, bad}} {
			expectAll(t, ValidTrigger, false, changed(r, func(r *api.Trigger) { r.When = when }))
		}
		for amount := range 8 {
			same := slices.Repeat(r.Actions, amount)
			expectAll(t, ValidTrigger, amount >= 1 && amount <= 4, changed(r, func(r *api.Trigger) { r.Actions = same }))
			for place := range amount {
				l := slices.Repeat(r.Actions, amount)
				l[place] = abort("\n")
				expectAll(t, ValidTrigger, false, changed(r, func(r *api.Trigger) { r.Actions = l }))
			}
		}
	}
	expectAll(t, ValidTrigger, false, api.Trigger{}, changed(after(), func(r *api.Trigger) { r.Actions = []api.Action{{}} }), changed(after(), func(r *api.Trigger) { r.Actions = []api.Action{remove(bad)} }))
}

// P11.4: which trigger can have which action.
func TestActionsOfTriggers(t *testing.T) {
	for _, x := range actions() {
		for _, event := range []int{api.Insert, api.Update, api.Delete} {
			for _, eachRow := range []bool{false, true} {
				for _, isBefore := range []bool{false, true} {
					want := true
					switch x.Kind {
					case api.ActInsert, api.ActUpdate, api.ActDelete:
						want = !isBefore
					case api.ActSet:
						want = isBefore && eachRow && event != api.Delete
					}
					r := api.Trigger{Name: "r", Table: "t", Event: event, EachRow: eachRow, Before: isBefore}
					for _, l := range [][]api.Action{{x}, {abort(""), x}, {x, abort("")}} {
						r.Actions = l
						expectAll(t, ValidTrigger, want, r)
					}
				}
			}
		}
	}
}

// statements has a well-formed statement of each kind and of each of its actions.
func statements() []api.Statement {
	key := api.Column{Name: "id", Type: api.Int, NotNull: true, Key: true}
	l := []api.Statement{
		{Kind: api.StmtCreateTable, Schema: api.Schema{Name: "t", Columns: []api.Column{key}}},
		{Kind: api.StmtDropTable, Name: "t"},
		{Kind: api.StmtCreateTrigger, Trigger: after()},
		{Kind: api.StmtCreateTrigger, Trigger: before()},
		{Kind: api.StmtDropTrigger, Name: "r"},
		{Kind: api.StmtSelect, Query: one(a)},
		{Kind: api.StmtSelect, Query: all(a)},
	}
	for _, x := range actions()[:4] {
		l = append(l, api.Statement{Kind: api.StmtChange, Action: x})
	}
	return l
}

// P11.5: each kind of statement with its part.
func TestStatements(t *testing.T) {
	expectAll(t, Valid, true, statements()...)
	for _, s := range badNames {
		expectAll(t, Valid, false, api.Statement{Kind: api.StmtDropTable, Name: s}, api.Statement{Kind: api.StmtDropTrigger, Name: s})
	}
	columns := func(l ...api.Column) api.Statement {
		return api.Statement{Kind: api.StmtCreateTable, Schema: api.Schema{Name: "t", Columns: l}}
	}
	n := api.Column{Name: "n", Type: api.Text}
	expectAll(t, Valid, true, columns(n), columns(n, api.Column{Name: "m", Type: api.Bool, NotNull: true}))
	expectAll(t, Valid, false, columns(), columns(n, n), columns(api.Column{Name: "n"}), columns(api.Column{Name: "n", Type: api.Int, Key: true}), api.Statement{Kind: api.StmtCreateTable, Schema: api.Schema{Columns: []api.Column{n}}})
	expectAll(t, Valid, false,
		api.Statement{Kind: api.StmtCreateTrigger, Trigger: changed(after(), func(r *api.Trigger) { r.Actions = nil })},
		api.Statement{Kind: api.StmtSelect, Query: one()}, api.Statement{Kind: api.StmtSelect, Query: all(bad)},
		api.Statement{Kind: api.StmtChange, Action: insert()}, api.Statement{Kind: api.StmtChange, Action: update()}, api.Statement{Kind: api.StmtChange, Action: remove(bad)},
		api.Statement{Kind: api.StmtChange, Action: abort("no")}, api.Statement{Kind: api.StmtChange, Action: assign("a")})
	for _, kind := range []int{0, 1, 2, 3, 4, 5, 6, 7, -1, math.MaxInt, math.MinInt} {
		expectAll(t, Valid, false, api.Statement{Kind: kind})
	}
	for _, s := range statements() {
		for _, kind := range []int{0, 7, -1, math.MaxInt, math.MinInt} {
			s.Kind = kind
			expectAll(t, Valid, false, s)
		}
	}
}

// expressions has a well-formed expression of each kind, with all parts that it can have.
func expressions() []api.Expr {
	some := one(a)
	some.Where = list(a)
	counted := one()
	counted.Where = list(a)
	return []api.Expr{
		five, qualified("t", "a"), not(a), negate(a), join(api.OpOr, a, a),
		changed(isNull(a), func(e *api.Expr) { e.Not = true }), between(a, a, a), over(api.ExprExists, all(a)),
		over(api.ExprCount, counted), over(api.ExprSum, some), over(api.ExprMin, some), over(api.ExprMax, some),
	}
}

// samples has a value for each field, so that each kind of a tree can get fields that it does not use.
var samples = map[string]any{
	"Op": 1, "Not": true, "Value": api.Value{Kind: api.Int, Int: 1}, "Table": "t", "Name": "a", "Args": list(a), "Sub": []api.Query{all()},
	"Rows": [][]api.Expr{{a}}, "Query": []api.Query{all()}, "Sets": sets("a"), "Where": list(a), "Text": "a",
	"Star": true, "Items": list(a), "From": "t", "Columns": []api.Column{{Name: "a", Type: api.Int}},
	"Before": true, "Event": 1, "Of": []string{"a"}, "EachRow": true, "Precedes": []string{"a"}, "Follows": []string{"a"},
	"Rank": []api.Rank{{Table: "t", Column: "n"}}, "When": list(a), "Actions": []api.Action{abort("")}, "Kind": 1,
}

// expectFields checks that x is no longer well-formed when a field gets a value that is not among the used ones, and that it stays so when lists are empty instead of nil.
func expectFields[T any](t *testing.T, valid func(T) bool, x T, used string) {
	t.Helper()
	for i := range reflect.TypeFor[T]().NumField() {
		f := reflect.TypeFor[T]().Field(i)
		if slices.Contains(strings.Fields("Kind "+used), f.Name) {
			continue
		}
		for _, sample := range samplesOf(t, f) {
			y := x
			reflect.ValueOf(&y).Elem().Field(i).Set(sample)
			if valid(y) {
				t.Errorf("%+v has the field %s", y, f.Name)
			}
		}
		if f.Type.Kind() == reflect.Slice {
			y := x
			reflect.ValueOf(&y).Elem().Field(i).Set(reflect.MakeSlice(f.Type, 0, 1))
			if !valid(y) {
				t.Errorf("%+v has the empty list %s", y, f.Name)
			}
		}
	}
	if !valid(x) {
		t.Errorf("%+v is not well-formed", x)
	}
}

// samplesOf returns values for a field: for a tree, one for each field of the tree.
func samplesOf(t *testing.T, f reflect.StructField) []reflect.Value {
	if f.Type.Kind() != reflect.Struct || f.Type == reflect.TypeFor[api.Value]() {
		v, ok := samples[f.Name]
		if !ok {
			t.Fatal("no sample of ", f.Name)
		}
		return []reflect.Value{reflect.ValueOf(v)}
	}
	var l []reflect.Value
	for i := range f.Type.NumField() {
		for _, sample := range samplesOf(t, f.Type.Field(i)) {
			v := reflect.New(f.Type).Elem()
			v.Field(i).Set(sample)
			l = append(l, v)
		}
	}
	return l
}

// All promises about trees: a field that a kind does not use is zero.
func TestUnusedFields(t *testing.T) {
	used := []string{"Value", "Table Name", "Args", "Args", "Op Args", "Not Args", "Args", "Sub", "Sub", "Sub", "Sub", "Sub"}
	for i, e := range expressions() {
		expectFields(t, ValidExpr, e, used[i])
	}
	used = []string{"Table Rows", "Table Query", "Table Sets Where", "Table Where", "Text", "Sets"}
	for i, x := range actions() {
		expectFields(t, ValidAction, x, used[i])
	}
	used = []string{"Schema", "Name", "Trigger", "Trigger", "Name", "Query", "Query", "Action", "Action", "Action", "Action"}
	for i, s := range statements() {
		expectFields(t, Valid, s, used[i])
	}
	for _, e := range expressions() {
		l := changed(e, func(e *api.Expr) {
			e.Args = append([]api.Expr{}, e.Args...)
			e.Sub = append([]api.Query{}, e.Sub...)
		})
		expectAll(t, ValidExpr, true, l)
	}
}

// R2: arguments, with the spare capacity of their lists, stay as they are and are read up to their lengths.
func TestArgumentsStay(t *testing.T) {
	cut := func() api.Statement {
		items := list(not(five), a, bad, bad)[:2:4]
		where := list(join(api.OpOr, join(api.OpOr, a, a), a), bad)[:1]
		updated := update(sets("a", "b", "B")[:2]...)
		updated.Where = where
		r := api.Trigger{
			Name: "r", Table: "t", Event: api.Update,
			Of: []string{"a", "b", "b"}[:2], Precedes: []string{"a", "A"}[:1], Follows: []string{"c", "c"}[:1], Rank: []api.Rank{{Table: "t", Column: "n"}, {}}[:1], When: list(a, bad)[:1],
			Actions: []api.Action{updated, insert([][]api.Expr{items, nil}[:1]...), insertFrom([]api.Query{{From: "t", Items: items, Where: where}, {}}[:1]...), abort(""), {}}[:4],
		}
		return api.Statement{Kind: api.StmtCreateTrigger, Trigger: r}
	}
	s := cut()
	if !Valid(s) || Levels(s) != 2 {
		t.Errorf("Valid is %v, Levels is %d", Valid(s), Levels(s))
	}
	if !reflect.DeepEqual(whole(s), whole(cut())) {
		t.Error("an argument has changed")
	}
}

// whole returns s with its lists up to their capacities.
func whole(s api.Statement) api.Statement {
	r := &s.Trigger
	r.Of, r.Precedes, r.Follows, r.Rank, r.When, r.Actions = r.Of[:cap(r.Of)], r.Precedes[:cap(r.Precedes)], r.Follows[:cap(r.Follows)], r.Rank[:cap(r.Rank)], r.When[:cap(r.When)], r.Actions[:cap(r.Actions)]
	for i := range r.Actions {
		x := &r.Actions[i]
		x.Rows, x.Query, x.Sets, x.Where = x.Rows[:cap(x.Rows)], x.Query[:cap(x.Query)], x.Sets[:cap(x.Sets)], x.Where[:cap(x.Where)]
		for i := range x.Rows {
			x.Rows[i] = x.Rows[i][:cap(x.Rows[i])]
		}
		for i := range x.Query {
			q := &x.Query[i]
			q.Items, q.Where = q.Items[:cap(q.Items)], q.Where[:cap(q.Where)]
		}
	}
	return s
}

// R1: a tree that is as deep, or as wide, as the bounds of the document allow.
func TestLargeTrees(t *testing.T) {
	const depth = 1 << 16
	deep, sub, left := five, five, five
	for range depth {
		deep = not(deep)
		sub = over(api.ExprExists, all(sub))
		left = join(api.OpSub, left, five)
	}
	expectAll(t, ValidExpr, true, deep, sub, left)
	if LevelsOf(deep) != depth || LevelsOf(sub) != depth || LevelsOf(left) != 0 {
		t.Error(LevelsOf(deep), LevelsOf(sub), LevelsOf(left))
	}
	wide := slices.Repeat(list(a), 1<<16)
	expectAll(t, ValidExpr, false, with(api.ExprNot, wide...), over(api.ExprSum, one(wide...)))
	expectAll(t, ValidQuery, false, one(wide...), all(wide...))
	expectAll(t, ValidAction, false, insert(wide), update(slices.Repeat(sets("a"), 1<<16)...))
	expectAll(t, ValidTrigger, false, changed(after(), func(r *api.Trigger) { r.Precedes = names(1 << 16) }))
	if LevelsOf(with(api.ExprBetween, wide...)) != 0 {
		t.Error("a wide expression has levels")
	}
}

package scope

import (
	"reflect"
	"slices"
	"testing"

	"triggerstore/api"
)

// typed is a text with the type of its expression or its error, of which one is zero.
type typed struct {
	text string
	kind int
	code api.Errno
}

func expectType(t *testing.T, e api.Expr, frames []api.Frame, tables []api.Table, kind int, code api.Errno) {
	t.Helper()
	if got, c := Type(e, frames, tables); got != kind || c != code {
		t.Errorf("%+v: %d, %d, want %d, %d", e, got, c, kind, code)
	}
}

// expectTyped checks expressions in the world of these tests.
func expectTyped(t *testing.T, l ...typed) {
	t.Helper()
	frames, tables := world()
	for _, x := range l {
		if kind, code := Type(expr(t, x.text), frames, tables); kind != x.kind || code != x.code {
			t.Errorf("%s: %d, %d, want %d, %d", x.text, kind, code, x.kind, x.code)
		}
	}
}

// literal returns a literal of a kind, which may not exist.
func literal(kind int) api.Expr {
	return api.Expr{Kind: api.ExprLiteral, Value: api.Value{Kind: kind}}
}

// with returns an expression of a kind with arguments, join one with an operator.
func with(kind int, args ...api.Expr) api.Expr { return api.Expr{Kind: kind, Args: args} }

func join(op int, args ...api.Expr) api.Expr {
	return api.Expr{Kind: api.ExprBinary, Op: op, Args: args}
}

// over returns an expression of a kind with queries.
func over(kind int, l ...api.Query) api.Expr { return api.Expr{Kind: kind, Sub: l} }

// P14.2: literals and columns.
func TestLiteralsAndColumns(t *testing.T) {
	expectTyped(t, []typed{
		{"NULL", api.Null, api.OK},
		{"0", api.Int, api.OK},
		{"FALSE", api.Bool, api.OK},
		{"''", api.Text, api.OK},
		{"n", api.Int, api.OK},
		{"s", api.Text, api.OK},
		{"t.ok", api.Bool, api.OK},
		{"NEW.b", api.Text, api.OK},
		{"OLD.a", api.Int, api.OK},
		{"b", 0, api.ErrName}, // strict frames are named only with their qualifier
		{"a", 0, api.ErrName},
		{"m", 0, api.ErrName}, // u is a table, not a frame
		{"u.m", 0, api.ErrName},
		{"NEW.a", 0, api.ErrName},
		{"INSERTED.ok", 0, api.ErrName},
	}...)
	expectType(t, expr(t, "n"), nil, nil, 0, api.ErrName)
	expectType(t, expr(t, "n"), []api.Frame{frame("t", "n")}, nil, api.Null, api.OK)
}

// P14.2: a literal has the kind of its value and a column the type of the column, also if that does not exist. Such a type fits itself and null.
func TestOtherTypes(t *testing.T) {
	frames := []api.Frame{{Columns: []api.Column{{Name: "n", Type: -7}}}}
	n, nine := expr(t, "n"), literal(9)
	expectType(t, n, frames, nil, -7, api.OK)
	expectType(t, nine, nil, nil, 9, api.OK)
	expectType(t, api.Expr{Kind: api.ExprLiteral, Value: api.Value{Kind: api.Text, Int: 5}}, nil, nil, api.Text, api.OK)
	expectType(t, join(api.OpEq, nine, nine), nil, nil, api.Bool, api.OK)
	expectType(t, join(api.OpEq, nine, literal(api.Null)), nil, nil, api.Bool, api.OK)
	expectType(t, join(api.OpEq, n, nine), frames, nil, 0, api.ErrType)
	expectType(t, with(api.ExprIsNull, nine), nil, nil, api.Bool, api.OK)
	expectType(t, with(api.ExprNot, nine), nil, nil, 0, api.ErrType)
	expectType(t, with(api.ExprNegate, n), frames, nil, 0, api.ErrType)
	if got := Condition([]api.Expr{nine}, nil, nil); got != api.ErrType {
		t.Errorf("a condition of another type: %d", got)
	}
}

// fits reports whether arguments have the types that an operation wants: a certain one, one and the same, or any. Null fits every type.
func fits(wants string, args ...int) bool {
	args = slices.DeleteFunc(slices.Clone(args), func(kind int) bool { return kind == api.Null })
	switch wants {
	case "BOOL", "INT":
		return !slices.ContainsFunc(args, func(kind int) bool { return kind != kinds[wants] })
	case "ONE":
		return len(slices.Compact(args)) <= 1
	}
	return true
}

// expectOperation checks an expression for arguments of these types.
func expectOperation(t *testing.T, e api.Expr, wants, gives string, args ...int) {
	t.Helper()
	e.Args = nil
	for _, kind := range args {
		e.Args = append(e.Args, literal(kind))
	}
	if fits(wants, args...) {
		expectType(t, e, nil, nil, kinds[gives], api.OK)
	} else {
		expectType(t, e, nil, nil, 0, api.ErrType)
	}
}

// P14.2: each operator for arguments of all types.
func TestOperations(t *testing.T) {
	for a := api.Null; a <= api.Text; a++ {
		expectOperation(t, with(api.ExprNot), "BOOL", "BOOL", a)
		expectOperation(t, with(api.ExprNegate), "INT", "INT", a)
		expectOperation(t, with(api.ExprIsNull), "ANY", "BOOL", a)
		expectOperation(t, api.Expr{Kind: api.ExprIsNull, Not: true}, "ANY", "BOOL", a)
		for b := api.Null; b <= api.Text; b++ {
			for _, op := range []int{api.OpOr, api.OpAnd} {
				expectOperation(t, join(op), "BOOL", "BOOL", a, b)
			}
			for _, op := range []int{api.OpEq, api.OpNe, api.OpLt, api.OpLe, api.OpGt, api.OpGe} {
				expectOperation(t, join(op), "ONE", "BOOL", a, b)
			}
			for _, op := range []int{api.OpAdd, api.OpSub, api.OpMul, api.OpDiv, api.OpMod} {
				expectOperation(t, join(op), "INT", "INT", a, b)
			}
			for c := api.Null; c <= api.Text; c++ {
				expectOperation(t, with(api.ExprBetween), "ONE", "BOOL", a, b, c)
			}
		}
	}
}

// P14.2: only ExprBinary has an operator; that of another kind plays no part.
func TestOperatorsOfOtherKinds(t *testing.T) {
	for op := -1; op <= 14; op++ {
		for a := api.Null; a <= api.Text; a++ {
			expectOperation(t, api.Expr{Kind: api.ExprNot, Op: op}, "BOOL", "BOOL", a)
			expectOperation(t, api.Expr{Kind: api.ExprNegate, Op: op}, "INT", "INT", a)
			expectOperation(t, api.Expr{Kind: api.ExprIsNull, Op: op}, "ANY", "BOOL", a)
			expectOperation(t, api.Expr{Kind: api.ExprBetween, Op: op}, "ONE", "BOOL", a, a, api.Int)
		}
	}
}

// P14.2: the first error in the order of the text, the arguments ahead of their operator.
func TestOrderOfErrors(t *testing.T) {
	expectTyped(t, []typed{
		{"x + (NOT 1)", 0, api.ErrName},
		{"(NOT 1) + x", 0, api.ErrType},
		{"1 + TRUE + x", 0, api.ErrType}, // 1 + TRUE is an argument, ahead of x
		{"x + 1 + TRUE", 0, api.ErrName},
		{"TRUE + x", 0, api.ErrName}, // all arguments are typed before they are compared
		{"s AND x", 0, api.ErrName},
		{"NOT x", 0, api.ErrName},
		{"- (- s)", 0, api.ErrType},
		{"x IS NULL", 0, api.ErrName},
		{"(NOT n) IS NOT NULL", 0, api.ErrType},
		{"n BETWEEN s AND x", 0, api.ErrName},
		{"n BETWEEN (NOT 1) AND x", 0, api.ErrType},
		{"x BETWEEN (NOT 1) AND 1", 0, api.ErrName},
		{"n BETWEEN x AND (NOT 1)", 0, api.ErrName},
		{"FALSE AND x", 0, api.ErrName}, // there are no shortcuts
		{"NULL = x", 0, api.ErrName},
		{"n = 1 AND s = 'a' OR ok", api.Bool, api.OK},
		{"n + n * (- n) = n % 2", api.Bool, api.OK},
	}...)
}

// P14.2: what expressions with queries give, and the types of items and conditions.
func TestQueriesInExpressions(t *testing.T) {
	expectTyped(t, []typed{
		{"EXISTS (SELECT * FROM u)", api.Bool, api.OK},
		{"(SELECT COUNT (*) FROM INSERTED)", api.Int, api.OK},
		{"(SELECT SUM (n) FROM t)", api.Int, api.OK},
		{"(SELECT SUM (NULL) FROM t)", api.Int, api.OK},
		{"(SELECT SUM (n) FROM u)", 0, api.ErrType},
		{"(SELECT SUM (ok) FROM t)", 0, api.ErrType},
		{"(SELECT MIN (n) FROM t)", api.Int, api.OK},
		{"(SELECT MAX (n) FROM t)", api.Int, api.OK},
		{"(SELECT MIN (n) FROM u)", api.Text, api.OK},
		{"(SELECT MAX (n) FROM u)", api.Text, api.OK},
		{"(SELECT MIN (ok) FROM t)", api.Bool, api.OK},
		{"(SELECT MAX (ok) FROM t)", api.Bool, api.OK},
		{"(SELECT MIN (NULL) FROM t)", api.Null, api.OK},
		{"(SELECT MAX (NULL) FROM t)", api.Null, api.OK},
		{"(SELECT MIN (m = 1) FROM u)", api.Bool, api.OK},
		{"(SELECT MAX (- NULL) FROM u)", api.Int, api.OK},
	}...)
	for _, start := range []string{"EXISTS (SELECT * FROM ", "(SELECT COUNT (*) FROM ", "(SELECT SUM (1) FROM ", "(SELECT MIN (1) FROM ", "(SELECT MAX (1) FROM "} {
		kind := api.Int
		if start[0] == 'E' {
			kind = api.Bool
		}
		expectTyped(t, []typed{
			{start + "u WHERE m = 1)", kind, api.OK},
			{start + "u WHERE NULL)", kind, api.OK},
			{start + "u WHERE m)", 0, api.ErrType},
			{start + "u WHERE n = 1)", 0, api.ErrType}, // the table hides the frames
			{start + "u WHERE t.n = 1 AND NEW.ok)", kind, api.OK},
			{start + "u WHERE x)", 0, api.ErrName},
			{start + "u WHERE z)", 0, api.ErrName},
			{start + "v)", 0, api.ErrName},
			{start + "v WHERE NOT 1)", 0, api.ErrName},
			{start + "DELETED)", 0, api.ErrName},
			{start + "INSERTED WHERE INSERTED.i = 1 AND ok = 'a')", kind, api.OK},
		}...)
	}
}

// P14.2: the order of the errors of an expression with a query: the table, the item, the condition, and the type that a sum wants.
func TestOrderOfErrorsInQueries(t *testing.T) {
	expectTyped(t, []typed{
		{"(SELECT SUM (NOT 1) FROM v WHERE n)", 0, api.ErrName},
		{"(SELECT SUM (NOT 1) FROM u WHERE x)", 0, api.ErrType},
		{"(SELECT SUM (x) FROM u WHERE m)", 0, api.ErrName},
		{"(SELECT MIN (NOT 1) FROM u WHERE x)", 0, api.ErrType},
		{"(SELECT MAX (x) FROM u WHERE m)", 0, api.ErrName},
		{"(SELECT SUM (TRUE) FROM u WHERE x)", 0, api.ErrName},
		{"(SELECT SUM (n) FROM u WHERE x)", 0, api.ErrName},
		{"(SELECT SUM (n) FROM u WHERE TRUE)", 0, api.ErrType},
		{"(SELECT COUNT (*) FROM v) + (NOT 1)", 0, api.ErrName},
		{"(NOT 1) + (SELECT COUNT (*) FROM v)", 0, api.ErrType},
		{"TRUE + (SELECT COUNT (*) FROM v)", 0, api.ErrName},
		{"TRUE + (SELECT COUNT (*) FROM u)", 0, api.ErrType},
	}...)
}

// P14.2: which frames the parts of nested queries can name.
func TestNestedQueries(t *testing.T) {
	expectTyped(t, []typed{
		{"EXISTS (SELECT * FROM u WHERE EXISTS (SELECT * FROM INSERTED WHERE i = m AND ok = n AND t.ok AND OLD.a = i))", api.Bool, api.OK},
		{"EXISTS (SELECT * FROM u WHERE EXISTS (SELECT * FROM INSERTED WHERE ok))", 0, api.ErrType},             // ok is that of INSERTED
		{"EXISTS (SELECT * FROM u WHERE EXISTS (SELECT * FROM t WHERE n = 1 AND u.n = 'a'))", api.Bool, api.OK}, // n is that of t
		{"EXISTS (SELECT * FROM u WHERE n = 'a' AND EXISTS (SELECT * FROM t) AND n = 'a')", api.Bool, api.OK},   // behind an inner query it is that of u again
		{"EXISTS (SELECT * FROM u WHERE EXISTS (SELECT * FROM INSERTED) AND i = 1)", 0, api.ErrName},
		{"EXISTS (SELECT * FROM u) AND n = 1", api.Bool, api.OK}, // behind the query the frames are as before
		{"EXISTS (SELECT * FROM u) AND m = 1", 0, api.ErrName},
		{"EXISTS (SELECT * FROM u) AND EXISTS (SELECT * FROM t WHERE m = 1)", 0, api.ErrName},
		{"EXISTS (SELECT * FROM u WHERE m = 1) AND EXISTS (SELECT * FROM t WHERE n = 1)", api.Bool, api.OK},
		{"EXISTS (SELECT * FROM u WHERE EXISTS (SELECT * FROM t) AND EXISTS (SELECT * FROM INSERTED WHERE i = m))", api.Bool, api.OK},
		{"(SELECT SUM ((SELECT MAX (m + i) FROM INSERTED)) FROM u)", api.Int, api.OK},
		{"(SELECT SUM ((SELECT MAX (ok) FROM INSERTED)) FROM u)", 0, api.ErrType},
		{"(SELECT SUM ((SELECT MAX (i) FROM INSERTED)) FROM u WHERE i = 1)", 0, api.ErrName},
		{"(SELECT COUNT (*) FROM t WHERE (SELECT COUNT (*) FROM t WHERE t.ok) = n)", api.Int, api.OK},
	}...)
	expectType(t, expr(t, "EXISTS (SELECT * FROM u WHERE m = n)"), nil, []api.Table{table("u", "m INT, n INT")}, api.Bool, api.OK)
	expectType(t, expr(t, "EXISTS (SELECT * FROM u)"), nil, nil, 0, api.ErrName)
}

// P14.2: a query over t inside a trigger on u, as in the example of the chapter.
func TestExample(t *testing.T) {
	frames := []api.Frame{strict("NEW", "id INT"), frame("u", "id INT")}
	has, lacks := []api.Table{table("t", "id TEXT")}, []api.Table{table("t", "n INT")}
	expectType(t, expr(t, "(SELECT MAX (id) FROM t)"), frames, has, api.Text, api.OK)
	expectType(t, expr(t, "(SELECT MAX (NEW.id) FROM t)"), frames, has, api.Int, api.OK)
	expectType(t, expr(t, "(SELECT MAX (id) FROM t)"), frames, lacks, api.Int, api.OK)
	expectType(t, expr(t, "(SELECT MAX (id) FROM t)"), frames[:1], lacks, 0, api.ErrName)
}

// amounts has how many parts each kind of expression has: arguments, queries, and items of a query.
var amounts = map[int][3]int{
	api.ExprLiteral: {0, 0, 0}, api.ExprColumn: {0, 0, 0}, api.ExprNot: {1, 0, 0}, api.ExprNegate: {1, 0, 0}, api.ExprBinary: {2, 0, 0}, api.ExprIsNull: {1, 0, 0}, api.ExprBetween: {3, 0, 0},
	api.ExprExists: {0, 1, 0}, api.ExprCount: {0, 1, 0}, api.ExprSum: {0, 1, 1}, api.ExprMin: {0, 1, 1}, api.ExprMax: {0, 1, 1},
}

// P14.2: all kinds with all numbers of parts. Where these are right, a part that is the zero expression, or the table that is not there, is the error.
func TestNumbersOfParts(t *testing.T) {
	for kind := -1; kind <= 14; kind++ {
		want, exists := amounts[kind]
		for args := range 5 {
			for queries := range 3 {
				for items := range 3 {
					for where := range 3 {
						q := api.Query{Star: kind == api.ExprExists, From: "v", Items: make([]api.Expr, items), Where: make([]api.Expr, where)}
						e := api.Expr{Kind: kind, Op: api.OpEq, Name: "x", Args: slices.Repeat([]api.Expr{expr(t, "x")}, args), Sub: slices.Repeat([]api.Query{q}, queries)}
						code := api.ErrName
						if !exists || args != want[0] || queries != want[1] || queries > 0 && (items != want[2] || where > 1) {
							code = api.ErrInvalid
						} else if kind == api.ExprLiteral {
							code = api.OK
						}
						expectType(t, e, nil, nil, 0, code)
					}
				}
			}
		}
	}
}

// P14.2: an expression that is not well-formed has its error when it is typed: ahead of its arguments, behind what comes before it.
func TestOrderOfInvalid(t *testing.T) {
	frames, tables := world()
	x, one, invalid := expr(t, "x"), expr(t, "1"), api.Expr{}
	for op := -2; op <= 16; op++ {
		code := api.ErrName
		if op < api.OpOr || op > api.OpMod {
			code = api.ErrInvalid
		}
		expectType(t, join(op, x, x), frames, tables, 0, code)
	}
	for _, l := range []struct {
		e    api.Expr
		want api.Errno
	}{
		{invalid, api.ErrInvalid},
		{with(api.ExprNot, x, x), api.ErrInvalid},
		{join(99, x, x), api.ErrInvalid},
		{join(api.OpAdd, x), api.ErrInvalid},
		{join(api.OpAdd, x, invalid), api.ErrName},
		{join(api.OpAdd, one, invalid), api.ErrInvalid},
		{join(api.OpAdd, invalid, x), api.ErrInvalid},
		{join(api.OpAdd, expr(t, "TRUE"), invalid), api.ErrInvalid},
		{with(api.ExprIsNull, invalid), api.ErrInvalid},
		{with(api.ExprBetween, one, one, with(api.ExprBetween, x)), api.ErrInvalid},
		{over(api.ExprSum, api.Query{From: "v", Items: []api.Expr{invalid}}), api.ErrName},
		{over(api.ExprSum, api.Query{From: "u", Items: []api.Expr{invalid}, Where: []api.Expr{x}}), api.ErrInvalid},
		{over(api.ExprSum, api.Query{From: "u", Items: []api.Expr{x}, Where: []api.Expr{invalid}}), api.ErrName},
		{over(api.ExprSum, api.Query{From: "u", Items: exprs(t, "'a'"), Where: []api.Expr{invalid}}), api.ErrInvalid},
		{over(api.ExprCount, api.Query{From: "v", Where: []api.Expr{x, x}}), api.ErrInvalid},
		{over(api.ExprExists, api.Query{Star: true, From: "u", Where: []api.Expr{invalid}}), api.ErrInvalid},
	} {
		expectType(t, l.e, frames, tables, 0, l.want)
	}
}

// P14.2: the promise names no Star, so that the kind alone tells what is typed.
func TestStarOfExpressions(t *testing.T) {
	frames, tables := world()
	for kind, want := range map[int]int{api.ExprExists: api.Bool, api.ExprCount: api.Int, api.ExprSum: api.Int, api.ExprMin: api.Bool, api.ExprMax: api.Bool} {
		for _, star := range []bool{false, true} {
			q := api.Query{Star: star, From: "t"}
			if kind == api.ExprSum {
				q.Items = exprs(t, "NULL")
			} else if kind > api.ExprSum {
				q.Items = exprs(t, "ok")
			}
			expectType(t, over(kind, q), frames, tables, want, api.OK)
			if len(q.Items) > 0 {
				q.Items = exprs(t, "x")
				expectType(t, over(kind, q), frames, tables, 0, api.ErrName)
			}
		}
	}
}

// roomy returns a list with one more element in its spare capacity.
func roomy[E any](more E, l ...E) []E {
	return append(slices.Clone(l), more, more)[:len(l)]
}

// arguments returns frames, tables and an expression, of which all lists have something in their spare capacity.
func arguments(t *testing.T) ([]api.Frame, []api.Table, api.Expr) {
	frames, tables := world()
	extra := api.Column{Name: "x", Type: api.Bool}
	for i := range frames {
		frames[i].Columns = roomy(extra, frames[i].Columns...)
	}
	for i := range tables {
		tables[i].Schema.Columns = roomy(extra, tables[i].Schema.Columns...)
	}
	bad := api.Expr{}
	inner := over(api.ExprSum, roomy(api.Query{}, api.Query{From: "u", Items: roomy(bad, expr(t, "m")), Where: roomy(bad, expr(t, "n = 'a'"))})...)
	outer := over(api.ExprMax, roomy(api.Query{}, api.Query{From: "t", Items: roomy(bad, inner), Where: roomy(bad, expr(t, "ok"))})...)
	return roomy(frame("u", "q INT"), frames...), roomy(table("v", "q INT"), tables...), with(api.ExprNegate, roomy(bad, outer)...)
}

// whole returns a tree with its lists up to their capacities.
func whole(e api.Expr) api.Expr {
	e.Args, e.Sub = slices.Clone(e.Args[:cap(e.Args)]), slices.Clone(e.Sub[:cap(e.Sub)])
	for i, arg := range e.Args {
		e.Args[i] = whole(arg)
	}
	for i, q := range e.Sub {
		e.Sub[i].Items = whole(api.Expr{Args: q.Items}).Args
		e.Sub[i].Where = whole(api.Expr{Args: q.Where}).Args
	}
	return e
}

// wholeLists returns frames and tables with their lists up to their capacities.
func wholeLists(frames []api.Frame, tables []api.Table) ([]api.Frame, []api.Table) {
	frames, tables = slices.Clone(frames[:cap(frames)]), slices.Clone(tables[:cap(tables)])
	for i, f := range frames {
		frames[i].Columns = f.Columns[:cap(f.Columns)]
	}
	for i, x := range tables {
		tables[i].Schema.Columns = x.Schema.Columns[:cap(x.Schema.Columns)]
	}
	return frames, tables
}

// R2: arguments, with the spare capacity of their lists, stay as they are and are read up to their lengths.
func TestArgumentsStay(t *testing.T) {
	frames, tables, e := arguments(t)
	expectType(t, e, frames, tables, api.Int, api.OK)
	expectType(t, expr(t, "NEW.x"), frames, tables, 0, api.ErrName)
	expectType(t, expr(t, "(SELECT MAX (x) FROM t)"), frames, tables, 0, api.ErrName)
	expectTypes(t, api.Query{Star: true, From: "t", Where: []api.Expr{with(api.ExprIsNull, e)}}, frames, tables, []int{api.Int, api.Text, api.Bool}, api.OK)
	expectTypes(t, query(t, "SELECT * FROM v"), frames, tables, nil, api.ErrName)
	if got := Condition([]api.Expr{join(api.OpEq, e, e)}, frames, tables); got != api.OK {
		t.Errorf("Condition is %d", got)
	}
	expectPlace(t, frames, "u", "q", none)
	if s, _ := Source(tables, "t"); len(s.Columns) != 3 {
		t.Errorf("Source is %v", s)
	}
	f, x, tree := arguments(t)
	f, x = wholeLists(f, x)
	if frames, tables = wholeLists(frames, tables); !reflect.DeepEqual(frames, f) || !reflect.DeepEqual(tables, x) || !reflect.DeepEqual(whole(e), whole(tree)) {
		t.Errorf("the arguments are %v, %v, %v", frames, tables, e)
	}
}

// R2: results are new, and share no memory with the arguments.
func TestResultsAreNew(t *testing.T) {
	_, tables := world()
	first, _ := Source(tables, "t")
	second, _ := Source(tables, "t")
	clear(first.Columns[:cap(first.Columns)])
	if _, want := world(); !reflect.DeepEqual(tables, want) || !reflect.DeepEqual(second, want[0].Schema) {
		t.Errorf("the tables are %v, the second schema is %v", tables, second)
	}
	clear(tables[0].Schema.Columns)
	if len(second.Columns) != 3 || second.Columns[0].Name != "n" {
		t.Errorf("the second schema is %v", second)
	}
	q := query(t, "SELECT * FROM u")
	types, _ := Types(q, nil, tables)
	clear(types[:cap(types)])
	expectTypes(t, q, nil, tables, []int{api.Int, api.Text}, api.OK)
}

// R1: trees that are as deep, or as wide, as the bounds of the document allow.
func TestLargeTrees(t *testing.T) {
	const depth = 1 << 16
	frames, tables := world()
	deep, sub, left, sum := expr(t, "ok"), expr(t, "NEW.ok"), expr(t, "n"), expr(t, "OLD.n")
	for range depth {
		deep = with(api.ExprNot, deep)
		sub = over(api.ExprExists, api.Query{Star: true, From: "t", Where: []api.Expr{sub}})
		left = join(api.OpSub, left, literal(api.Int))
		sum = over(api.ExprSum, api.Query{From: "t", Items: []api.Expr{sum}})
	}
	expectType(t, deep, frames, tables, api.Bool, api.OK)
	expectType(t, sub, frames, tables, api.Bool, api.OK)
	expectType(t, left, frames, tables, api.Int, api.OK)
	expectType(t, sum, frames, tables, api.Int, api.OK)
	expectType(t, sum, frames[1:], tables, 0, api.ErrName)
	wide := slices.Repeat(exprs(t, "n"), depth)
	expectType(t, with(api.ExprNot, wide...), frames, tables, 0, api.ErrInvalid)
	expectType(t, over(api.ExprSum, api.Query{From: "t", Items: wide}), frames, tables, 0, api.ErrInvalid)
	expectTypes(t, api.Query{From: "t", Items: wide}, frames, tables, slices.Repeat([]int{api.Int}, depth), api.OK)
	many := slices.Repeat(frames, depth)
	expectPlace(t, many, "", "n", place{len(many) - 1, 0, true})
	expectPlace(t, many, "", "x", none)
}

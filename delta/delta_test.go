package delta

import (
	"math"
	"slices"
	"strings"
	"testing"

	"triggerstore/api"
	"triggerstore/table"
)

func number(n int64) api.Value { return api.Value{Kind: api.Int, Int: n} }

func text(s string) api.Value { return api.Value{Kind: api.Text, Text: s} }

// cells returns a row of numbers.
func cells(numbers ...int64) []api.Value {
	var l []api.Value
	for _, n := range numbers {
		l = append(l, number(n))
	}
	return l
}

// row returns a row of numbers with its number.
func row(id int, numbers ...int64) api.Row {
	return api.Row{ID: id, Values: cells(numbers...)}
}

// pair returns the update of a row, with its number.
func pair(id int, before, after []api.Value) api.Pair {
	return api.Pair{ID: id, Old: before, New: after}
}

var (
	id    = api.Column{Name: "id", Type: api.Int, NotNull: true, Key: true}
	count = api.Column{Name: "n", Type: api.Int, NotNull: true}
	note  = api.Column{Name: "note", Type: api.Text}
)

// schema returns a schema with these columns.
func schema(columns ...api.Column) api.Schema {
	return api.Schema{Name: "t", Columns: columns}
}

// with returns a table whose second column is the key.
func with(next int, rows ...api.Row) api.Table {
	return api.Table{Schema: schema(count, id), Next: next, Rows: rows}
}

// stock is a table with the rows 2, 4 and 7, whose keys are 1, 2 and 3.
func stock() api.Table {
	return with(9, row(2, 10, 1), row(4, 20, 2), row(7, 30, 3))
}

// The values of the rows of stock.
func first() []api.Value  { return cells(10, 1) }
func second() []api.Value { return cells(20, 2) }
func third() []api.Value  { return cells(30, 3) }

// inserts, deletes and updates return differences of one kind.
func inserts(rows ...api.Row) api.Delta   { return api.Delta{Table: "t", Inserted: rows} }
func deletes(rows ...api.Row) api.Delta   { return api.Delta{Table: "t", Deleted: rows} }
func updates(pairs ...api.Pair) api.Delta { return api.Delta{Table: "t", Updated: pairs} }

// lines returns so many rows with numbers and keys from the first one on.
func lines(first, amount int) []api.Row {
	var l []api.Row
	for i := range amount {
		l = append(l, row(first+i, 7, int64(first+i)))
	}
	return l
}

// equalRow, equalPair, equalTable and equalDelta compare all fields; nil and empty lists are equal.
func equalRow(a, b api.Row) bool { return a.ID == b.ID && slices.Equal(a.Values, b.Values) }

func equalPair(a, b api.Pair) bool {
	return a.ID == b.ID && slices.Equal(a.Old, b.Old) && slices.Equal(a.New, b.New)
}

func equalTable(a, b api.Table) bool {
	return a.Schema.Name == b.Schema.Name && slices.Equal(a.Schema.Columns, b.Schema.Columns) && a.Next == b.Next && slices.EqualFunc(a.Rows, b.Rows, equalRow)
}

func equalDelta(a, b api.Delta) bool {
	return a.Table == b.Table && slices.EqualFunc(a.Inserted, b.Inserted, equalRow) && slices.EqualFunc(a.Deleted, b.Deleted, equalRow) && slices.EqualFunc(a.Updated, b.Updated, equalPair)
}

// checkBetween compares a difference with the one that is wanted, and applies it: a gets the rows of b.
func checkBetween(t *testing.T, name any, a, b api.Table, want api.Delta) {
	t.Helper()
	got, ok := Between(a, b)
	if !ok || !equalDelta(got, want) {
		t.Errorf("%v: Between(%v, %v) is %v, %v; want %v", name, a, b, got, ok, want)
		return
	}
	after, ok := Apply(a, got)
	if !ok || !slices.EqualFunc(after.Rows, b.Rows, equalRow) {
		t.Errorf("%v: Apply(%v, %v) is %v, %v; want the rows of %v", name, a, got, after, ok, b)
	}
}

// checkApply compares the state after d; want is the zero table if there is none.
func checkApply(t *testing.T, name any, x api.Table, d api.Delta, want api.Table) {
	t.Helper()
	got, ok := Apply(x, d)
	if ok != (want.Next != 0) || !equalTable(got, want) {
		t.Errorf("%v: Apply(%v, %v) is %v, %v; want %v", name, x, d, got, ok, want)
	}
	if ok && !table.Valid(got) {
		t.Errorf("%v: the table %v is not valid", name, got)
	}
}

// refuseApply requires that d is no difference of x.
func refuseApply(t *testing.T, name any, x api.Table, d api.Delta) {
	t.Helper()
	checkApply(t, name, x, d, api.Table{})
}

// refuseBetween requires that b is no later state of a.
func refuseBetween(t *testing.T, name any, a, b api.Table) {
	t.Helper()
	got, ok := Between(a, b)
	if ok || !equalDelta(got, api.Delta{}) {
		t.Errorf("%v: Between(%v, %v) is %v, %v; want none", name, a, b, got, ok)
	}
}

// P8.1, P8.5: the rows of each list, in their order, wherever they are among the others.
func TestBetween(t *testing.T) {
	for i, c := range []struct {
		b    api.Table
		want api.Delta
	}{
		{stock(), api.Delta{Table: "t"}},
		{with(50, stock().Rows...), api.Delta{Table: "t"}},
		{with(9), deletes(stock().Rows...)},
		{with(9, row(4, 20, 2), row(7, 30, 3)), deletes(row(2, 10, 1))},
		{with(9, row(2, 10, 1), row(7, 30, 3)), deletes(row(4, 20, 2))},
		{with(9, row(2, 10, 1), row(4, 20, 2)), deletes(row(7, 30, 3))},
		{with(9, row(4, 20, 2)), deletes(row(2, 10, 1), row(7, 30, 3))},
		{with(9, row(7, 30, 3)), deletes(row(2, 10, 1), row(4, 20, 2))},
		{with(9, row(2, 11, 1), row(4, 20, 2), row(7, 30, 3)), updates(pair(2, first(), cells(11, 1)))},
		{with(9, row(2, 10, 1), row(4, 20, 9), row(7, 30, 3)), updates(pair(4, second(), cells(20, 9)))},
		{with(9, row(2, 10, 3), row(4, 20, 2), row(7, 31, 1)), updates(pair(2, first(), cells(10, 3)), pair(7, third(), cells(31, 1)))},
		{with(10, append(stock().Rows, row(9, 40, 4))...), inserts(row(9, 40, 4))},
		{with(99, append(stock().Rows, row(9, 40, 4), row(20, 0, 0), row(98, 50, 5))...), inserts(row(9, 40, 4), row(20, 0, 0), row(98, 50, 5))},
		{with(12, row(10, 10, 1), row(11, 20, 2)), api.Delta{Table: "t", Inserted: []api.Row{row(10, 10, 1), row(11, 20, 2)}, Deleted: stock().Rows}},
		{with(12, row(2, 0, 0), row(7, 30, 3), row(11, 10, 1)), api.Delta{Table: "t", Inserted: []api.Row{row(11, 10, 1)}, Deleted: []api.Row{row(4, 20, 2)}, Updated: []api.Pair{pair(2, first(), cells(0, 0))}}},
		{with(12, row(7, 10, 1), row(11, 20, 2)), api.Delta{Table: "t", Inserted: []api.Row{row(11, 20, 2)}, Deleted: []api.Row{row(2, 10, 1), row(4, 20, 2)}, Updated: []api.Pair{pair(7, third(), first())}}},
	} {
		checkBetween(t, i, stock(), c.b, c.want)
	}
	empty := with(1)
	checkBetween(t, "no rows", empty, empty, api.Delta{Table: "t"})
	checkBetween(t, "first rows", empty, with(3, row(1, 5, 5), row(2, 6, 6)), inserts(row(1, 5, 5), row(2, 6, 6)))
	full, other := with(101, lines(1, 100)...), with(201, lines(101, 100)...)
	checkBetween(t, "all rows", full, other, api.Delta{Table: "t", Inserted: other.Rows, Deleted: full.Rows})
}

// P8.1: values differ if they are not the same: null differs from an empty text, and text from its beginning.
func TestBetweenValues(t *testing.T) {
	notes := func(values ...api.Value) api.Table {
		x := api.Table{Schema: schema(note), Next: 9}
		for i, v := range values {
			x.Rows = append(x.Rows, api.Row{ID: i + 1, Values: []api.Value{v}})
		}
		return x
	}
	change := func(id int, a, b api.Value) api.Pair {
		return pair(id, []api.Value{a}, []api.Value{b})
	}
	null := api.Value{}
	checkBetween(t, "same texts", notes(null, text("a")), notes(null, text(strings.Clone("a"))), api.Delta{Table: "t"})
	checkBetween(t, "null", notes(null, null, text("")), notes(text(""), null, null), updates(change(1, null, text("")), change(3, text(""), null)))
	checkBetween(t, "texts", notes(text("ab"), text("ab")), notes(text("a"), text("abc")), updates(change(1, text("ab"), text("a")), change(2, text("ab"), text("abc"))))
	// Rows that are equal but for their numbers are different rows.
	x, y := notes(text("a"), text("a")), notes(text("a"))
	y.Rows[0].ID = 2
	checkBetween(t, "equal rows", x, y, deletes(x.Rows[0]))
}

// P8.1: the example of the chapter, in several steps.
func TestBetweenSteps(t *testing.T) {
	a := stock()
	for _, d := range []api.Delta{
		inserts(row(9, 40, 4), row(10, 50, 5)),
		updates(pair(2, first(), cells(11, 8)), pair(9, cells(40, 4), cells(41, 4))),
		deletes(row(9, 41, 4), row(4, 20, 2)),
		updates(pair(2, cells(11, 8), cells(12, 9)), pair(7, third(), cells(0, 0)), pair(10, cells(50, 5), cells(51, 5))),
		updates(pair(7, cells(0, 0), third())),
	} {
		slices.SortFunc(d.Deleted, func(a, b api.Row) int { return a.ID - b.ID })
		after, ok := Apply(a, d)
		if !ok {
			t.Fatalf("%v is no difference of %v", d, a)
		}
		a = after
	}
	checkBetween(t, "steps", stock(), a, api.Delta{Table: "t", Inserted: []api.Row{row(10, 51, 5)}, Deleted: []api.Row{row(4, 20, 2)}, Updated: []api.Pair{pair(2, first(), cells(12, 9))}})
}

// invalid returns tables of the schema of stock that are not valid.
func invalid() []api.Table {
	return []api.Table{
		with(0),
		with(-1),
		with(1<<31 + 1),
		with(math.MaxInt),
		with(7, stock().Rows...),
		with(9, row(4, 20, 2), row(2, 10, 1)),
		with(9, row(2, 20, 2), row(2, 10, 1)),
		with(9, row(0, 10, 1)),
		with(9, row(2, 10, 1), row(4, 20, 1)),
		with(9, row(2, 10)),
		with(9, row(2)),
		with(9, row(2, 10, 1, 1)),
		with(9, api.Row{ID: 2, Values: []api.Value{{}, {}}}),
		with(9, api.Row{ID: 2, Values: []api.Value{text("a"), number(1)}}),
		with(900, lines(1, api.MaxRows+1)...),
	}
}

// P8.1: there is no difference of tables that are not valid, on either side.
func TestBetweenInvalid(t *testing.T) {
	for i, x := range invalid() {
		refuseBetween(t, i, x, x)
		refuseBetween(t, i, x, with(1<<31))
		refuseBetween(t, i, with(1), x)
	}
	refuseBetween(t, "zero", api.Table{}, api.Table{})
	for i, s := range []api.Schema{{}, schema(), schema(id, id), {Name: "T", Columns: []api.Column{id}}, schema(api.Column{Name: "a", Type: 4})} {
		refuseBetween(t, i, api.Table{Schema: s, Next: 1}, api.Table{Schema: s, Next: 1})
	}
}

// P8.1: the schemas are equal in the name and all columns.
func TestBetweenSchemas(t *testing.T) {
	base := schema(id, count, note)
	as := func(s api.Schema) api.Table { return api.Table{Schema: s, Next: 1} }
	checkBetween(t, "equal", as(base), as(schema(id, count, note)), api.Delta{Table: "t"})
	for i, s := range []api.Schema{
		{Name: "u", Columns: base.Columns},
		schema(id, count),
		schema(id, count, note, api.Column{Name: "m", Type: api.Int}),
		schema(count, id, note),
		schema(id, count, api.Column{Name: "notes", Type: api.Text}),
		schema(id, count, api.Column{Name: "note", Type: api.Int}),
		schema(id, count, api.Column{Name: "note", Type: api.Text, NotNull: true}),
		schema(id, api.Column{Name: "n", Type: api.Int}, note),
		schema(api.Column{Name: "id", Type: api.Int, NotNull: true}, count, note),
	} {
		if !table.Valid(as(s)) {
			t.Fatalf("%d: %v is not valid", i, s)
		}
		refuseBetween(t, i, as(base), as(s))
		refuseBetween(t, i, as(s), as(base))
	}
}

// P8.1: Next does not become smaller, and numbers are not given again.
func TestBetweenNumbers(t *testing.T) {
	refuseBetween(t, "smaller Next", with(9), with(8))
	refuseBetween(t, "far smaller Next", with(1<<31), with(1))
	refuseBetween(t, "smaller Next and a new row", with(9), with(8, row(7, 5, 5)))
	checkBetween(t, "the last Next", with(1), with(1<<31), api.Delta{Table: "t"})
	checkBetween(t, "the last number", with(1<<31-1), with(1<<31, row(1<<31-1, 5, 5)), inserts(row(1<<31-1, 5, 5)))

	for _, n := range []int{1, 3, 5, 6, 8} {
		refuseBetween(t, n, stock(), with(20, row(n, 5, 5)))
	}
	refuseBetween(t, "before rows", stock(), with(20, append([]api.Row{row(1, 5, 5)}, stock().Rows...)...))
	refuseBetween(t, "among rows", stock(), with(20, row(2, 10, 1), row(3, 5, 5), row(4, 20, 2)))
	refuseBetween(t, "behind rows", stock(), with(20, append(stock().Rows, row(8, 5, 5))...))
	refuseBetween(t, "before a new row", stock(), with(20, row(8, 5, 5), row(9, 6, 6)))
	refuseBetween(t, "no rows before", with(9), with(9, row(8, 5, 5)))
	checkBetween(t, "the next number", stock(), with(10, row(9, 5, 5)), api.Delta{Table: "t", Inserted: []api.Row{row(9, 5, 5)}, Deleted: stock().Rows})
}

// P8.2: each list counts for Empty, and for Rows with its own event.
func TestEmptyAndRows(t *testing.T) {
	pairs := []api.Pair{pair(1, first(), second()), pair(2, second(), first()), {}}
	for i, c := range []struct {
		d                          api.Delta
		inserted, updated, deleted int
	}{
		{api.Delta{}, 0, 0, 0},
		{api.Delta{Table: "t"}, 0, 0, 0},
		{api.Delta{Table: "t", Inserted: []api.Row{}, Deleted: []api.Row{}, Updated: []api.Pair{}}, 0, 0, 0},
		{inserts(row(1, 1, 1)), 1, 0, 0},
		{deletes(row(1, 1, 1)), 0, 0, 1},
		{updates(pairs[0]), 0, 1, 0},
		// Rows that are zero or that there cannot be count, too.
		{api.Delta{Inserted: make([]api.Row, 2)}, 2, 0, 0},
		{api.Delta{Inserted: lines(1, 5), Deleted: lines(1, 7), Updated: pairs}, 5, 3, 7},
		{api.Delta{Inserted: lines(1, 200), Deleted: lines(1, 200)}, 200, 0, 200},
	} {
		if got := Empty(c.d); got != (c.inserted+c.updated+c.deleted == 0) {
			t.Errorf("%d: Empty(%v) is %v", i, c.d, got)
		}
		for event, want := range map[int]int{
			api.Insert: c.inserted, api.Update: c.updated, api.Delete: c.deleted,
			0: 0, 4: 0, -1: 0, -3: 0, math.MaxInt: 0, math.MinInt: 0, 1<<32 + 1: 0,
		} {
			if got := Rows(c.d, event); got != want {
				t.Errorf("%d: Rows(%v, %d) is %d, want %d", i, c.d, event, got, want)
			}
		}
	}
}

// P8.3: the rows after a difference, and Next.
func TestApply(t *testing.T) {
	for i, c := range []struct {
		d    api.Delta
		want api.Table
	}{
		{api.Delta{Table: "t"}, stock()},
		{inserts(row(9, 40, 4)), with(10, append(stock().Rows, row(9, 40, 4))...)},
		{inserts(row(15, 40, 4)), with(16, append(stock().Rows, row(15, 40, 4))...)},
		{inserts(row(9, 60, 6), row(12, 0, 0), row(30, 50, 5)), with(31, append(stock().Rows, row(9, 60, 6), row(12, 0, 0), row(30, 50, 5))...)},
		{deletes(row(2, 10, 1)), with(9, row(4, 20, 2), row(7, 30, 3))},
		{deletes(row(4, 20, 2)), with(9, row(2, 10, 1), row(7, 30, 3))},
		{deletes(row(2, 10, 1), row(7, 30, 3)), with(9, row(4, 20, 2))},
		{deletes(stock().Rows...), with(9)},
		{updates(pair(4, second(), cells(21, 2))), with(9, row(2, 10, 1), row(4, 21, 2), row(7, 30, 3))},
		{updates(pair(2, first(), cells(0, 1)), pair(7, third(), cells(0, 9))), with(9, row(2, 0, 1), row(4, 20, 2), row(7, 0, 9))},
		// An update may leave the row as it is.
		{updates(pair(4, second(), second())), stock()},
		// Keys are compared afterwards.
		{updates(pair(2, first(), second()), pair(4, second(), first())), with(9, row(2, 20, 2), row(4, 10, 1), row(7, 30, 3))},
		{updates(pair(2, first(), cells(10, 2)), pair(4, second(), cells(20, 3)), pair(7, third(), cells(30, 1))), with(9, row(2, 10, 2), row(4, 20, 3), row(7, 30, 1))},
		{api.Delta{Table: "t", Inserted: []api.Row{row(9, 5, 1)}, Deleted: []api.Row{row(2, 10, 1)}}, with(10, row(4, 20, 2), row(7, 30, 3), row(9, 5, 1))},
		{api.Delta{Table: "t", Inserted: []api.Row{row(9, 5, 1)}, Updated: []api.Pair{pair(2, first(), cells(10, 5))}}, with(10, row(2, 10, 5), row(4, 20, 2), row(7, 30, 3), row(9, 5, 1))},
		{api.Delta{Table: "t", Inserted: []api.Row{row(20, 7, 2), row(21, 8, 1)}, Deleted: []api.Row{row(4, 20, 2)}, Updated: []api.Pair{pair(2, first(), cells(9, 3)), pair(7, third(), cells(6, 4))}}, with(22, row(2, 9, 3), row(7, 6, 4), row(20, 7, 2), row(21, 8, 1))},
	} {
		checkApply(t, i, stock(), c.d, c.want)
	}
	checkApply(t, "first rows", with(1), inserts(row(1, 5, 5), row(2, 6, 6)), with(3, row(1, 5, 5), row(2, 6, 6)))
	checkApply(t, "the last number", with(1), inserts(row(1<<31-1, 5, 5)), with(1<<31, row(1<<31-1, 5, 5)))
	checkApply(t, "no number left", with(1<<31, row(3, 1, 1)), updates(pair(3, cells(1, 1), cells(2, 1))), with(1<<31, row(3, 2, 1)))
	full := with(101, lines(1, 100)...)
	checkApply(t, "all rows", full, api.Delta{Table: "t", Inserted: lines(101, 100), Deleted: full.Rows}, with(201, lines(101, 100)...))
}

// P8.3: there is no state after a table that is not valid, nor of a difference of another table.
func TestApplyTable(t *testing.T) {
	for i, x := range invalid() {
		refuseApply(t, i, x, api.Delta{Table: "t"})
		refuseApply(t, i, x, deletes(x.Rows...))
		refuseApply(t, i, x, inserts(row(950, 5, 5)))
	}
	refuseApply(t, "zero", api.Table{}, api.Delta{})
	refuseApply(t, "no columns", api.Table{Schema: schema(), Next: 1}, api.Delta{Table: "t"})
	// A difference that would make the table valid does not make it valid before.
	twice := with(9, row(2, 10, 1), row(4, 20, 1))
	refuseApply(t, "twice", twice, deletes(row(4, 20, 1)))
	refuseApply(t, "too many", with(900, lines(1, 101)...), deletes(lines(1, 1)...))

	for _, name := range []string{"", "u", "T", "tt", "t "} {
		refuseApply(t, name, stock(), api.Delta{Table: name})
		refuseApply(t, name, stock(), api.Delta{Table: name, Inserted: []api.Row{row(9, 5, 5)}})
	}
	named := stock()
	named.Schema.Name = "u"
	refuseApply(t, "another name", named, deletes(row(2, 10, 1)))
}

// P8.3: deleted rows are in the table with their values, ascending.
func TestApplyDeleted(t *testing.T) {
	for i, d := range []api.Delta{
		deletes(row(1, 10, 1)),
		deletes(row(3, 20, 2)),
		deletes(row(8, 30, 3)),
		deletes(row(9, 30, 3)),
		deletes(row(-2, 10, 1)),
		deletes(row(1<<32+2, 10, 1)),
		deletes(row(math.MinInt, 10, 1)),
		deletes(row(2, 11, 1)),
		deletes(row(2, 10, 2)),
		deletes(row(2, 1, 10)),
		deletes(row(2, 20, 2)),
		deletes(row(2, 10)),
		deletes(row(2, 10, 1, 1)),
		deletes(row(2)),
		deletes(api.Row{ID: 2, Values: []api.Value{number(10), {Kind: api.Bool, Int: 1}}}),
		deletes(api.Row{ID: 2, Values: []api.Value{number(10), {Kind: api.Int, Int: 1, Text: "a"}}}),
		deletes(row(2, 10, 1), row(2, 10, 1)),
		deletes(row(4, 20, 2), row(2, 10, 1)),
		deletes(row(2, 10, 1), row(7, 30, 3), row(4, 20, 2)),
		deletes(row(2, 10, 1), row(4, 20, 3)),
		deletes(row(2, 10, 1), row(4, 20, 2), row(7, 30, 4)),
		deletes(row(2, 10, 1), row(4, 20, 2), row(7, 30, 3), row(8, 0, 0)),
		// One that the difference inserts itself is not there before.
		{Table: "t", Inserted: []api.Row{row(9, 5, 5)}, Deleted: []api.Row{row(9, 5, 5)}},
	} {
		refuseApply(t, i, stock(), d)
	}
}

// P8.3: updated rows are in the table with their Old, ascending, and not deleted.
func TestApplyUpdated(t *testing.T) {
	fine := cells(5, 5)
	for i, d := range []api.Delta{
		updates(pair(1, first(), fine)),
		updates(pair(3, first(), fine)),
		updates(pair(8, third(), fine)),
		updates(pair(9, third(), fine)),
		updates(pair(-2, first(), fine)),
		updates(pair(1<<32+2, first(), fine)),
		updates(pair(2, cells(11, 1), fine)),
		updates(pair(2, cells(10, 2), fine)),
		updates(pair(2, cells(10), fine)),
		updates(pair(2, cells(10, 1, 1), fine)),
		updates(pair(2, nil, fine)),
		updates(pair(2, fine, first())),
		updates(pair(2, []api.Value{number(10), text("1")}, fine)),
		updates(pair(2, first(), fine), pair(2, first(), fine)),
		updates(pair(2, first(), fine), pair(2, fine, fine)),
		updates(pair(4, second(), fine), pair(2, first(), cells(6, 6))),
		updates(pair(2, first(), fine), pair(4, first(), cells(6, 6))),
		updates(pair(2, first(), first()), pair(7, third(), third()), pair(4, second(), second())),
		{Table: "t", Deleted: []api.Row{row(2, 10, 1)}, Updated: []api.Pair{pair(2, first(), fine)}},
		{Table: "t", Deleted: stock().Rows, Updated: []api.Pair{pair(7, third(), third())}},
		{Table: "t", Inserted: []api.Row{row(9, 5, 5)}, Updated: []api.Pair{pair(9, fine, fine)}},
	} {
		refuseApply(t, i, stock(), d)
	}
}

// P8.3: inserted rows ascend from Next on.
func TestApplyInserted(t *testing.T) {
	for i, d := range []api.Delta{
		inserts(row(8, 5, 5)),
		inserts(row(1, 5, 5)),
		inserts(row(4, 5, 5)),
		inserts(row(0, 5, 5)),
		inserts(row(-1, 5, 5)),
		inserts(row(math.MinInt, 5, 5)),
		inserts(row(1<<31, 5, 5)),
		inserts(row(math.MaxInt, 5, 5)),
		inserts(row(math.MaxInt, 5, 5), row(9, 6, 6)),
		inserts(row(9, 5, 5), row(math.MaxInt, 6, 6)),
		inserts(row(9, 5, 5), row(9, 6, 6)),
		inserts(row(9, 5, 5), row(9, 5, 5)),
		inserts(row(10, 5, 5), row(9, 6, 6)),
		inserts(row(9, 5, 5), row(20, 6, 6), row(19, 7, 7)),
		inserts(row(9, 5, 5), row(8, 6, 6)),
		// The number of a row that goes is not free again.
		{Table: "t", Inserted: []api.Row{row(7, 5, 5)}, Deleted: []api.Row{row(7, 30, 3)}},
	} {
		refuseApply(t, i, stock(), d)
	}
	refuseApply(t, "no number left", with(1<<31), inserts(row(1<<31, 5, 5)))
	refuseApply(t, "the last number again", with(1<<31), inserts(row(1<<31-1, 5, 5)))
}

// P8.3: the result is a valid table.
func TestApplyResult(t *testing.T) {
	null, wrong := []api.Value{{}, number(5)}, []api.Value{text("a"), number(5)}
	for i, l := range [][]api.Value{null, wrong, {{Kind: 9}, number(5)}, {number(5), {}}, nil, cells(5), cells(5, 5, 5)} {
		refuseApply(t, i, stock(), inserts(api.Row{ID: 9, Values: l}))
		refuseApply(t, i, stock(), inserts(row(9, 6, 6), api.Row{ID: 10, Values: l}))
		refuseApply(t, i, stock(), updates(pair(2, first(), l)))
		refuseApply(t, i, stock(), updates(pair(2, first(), first()), pair(7, third(), l)))
	}
	for i, d := range []api.Delta{
		inserts(row(9, 5, 1)),
		inserts(row(9, 5, 5), row(10, 6, 5)),
		updates(pair(2, first(), cells(10, 2))),
		updates(pair(2, first(), cells(10, 5)), pair(7, third(), cells(10, 5))),
		{Table: "t", Inserted: []api.Row{row(9, 5, 6)}, Updated: []api.Pair{pair(2, first(), cells(10, 6))}},
		{Table: "t", Inserted: []api.Row{row(9, 5, 2)}, Deleted: []api.Row{row(2, 10, 1)}},
		{Table: "t", Deleted: []api.Row{row(2, 10, 1)}, Updated: []api.Pair{pair(4, second(), cells(0, 3))}},
	} {
		refuseApply(t, i, stock(), d)
	}
	full := with(101, lines(1, 100)...)
	refuseApply(t, "one too many", full, inserts(row(101, 7, 101)))
	refuseApply(t, "two for one", full, api.Delta{Table: "t", Inserted: lines(101, 2), Deleted: lines(1, 1)})
	checkApply(t, "one for one", full, api.Delta{Table: "t", Inserted: lines(101, 1), Deleted: lines(1, 1)}, with(102, lines(2, 100)...))
	refuseApply(t, "far too many", with(1), inserts(lines(1, 10000)...))
}

// P8.4: the columns in which an update differs, in the order of the schema.
func TestChanged(t *testing.T) {
	s := schema(count, id, note)
	row := func(a, b int64, c string) []api.Value { return []api.Value{number(a), number(b), text(c)} }
	base := row(1, 2, "a")
	for i, c := range []struct {
		d    api.Delta
		want []string
	}{
		{api.Delta{}, nil},
		{updates(pair(1, base, base)), nil},
		{updates(pair(1, base, row(9, 2, "a"))), []string{"n"}},
		{updates(pair(1, base, row(1, 9, "a"))), []string{"id"}},
		{updates(pair(1, base, row(1, 2, "b"))), []string{"note"}},
		{updates(pair(1, base, row(9, 9, "b"))), []string{"n", "id", "note"}},
		{updates(pair(1, base, row(1, 2, "b")), pair(2, base, row(9, 2, "a"))), []string{"n", "note"}},
		{updates(pair(1, base, base), pair(2, base, row(1, 9, "a")), pair(3, base, base)), []string{"id"}},
		{updates(pair(1, base, row(9, 2, "a")), pair(2, base, row(8, 2, "a"))), []string{"n"}},
		{updates(pair(1, base, row(9, 2, "a")), pair(1, row(9, 2, "a"), base)), []string{"n"}},
		// Nulls are the same; a value of another kind is another one.
		{updates(pair(1, []api.Value{{}, {}, {}}, []api.Value{{}, {}, text("")})), []string{"note"}},
		{updates(pair(1, cells(1, 2, 0), []api.Value{number(1), {Kind: api.Bool, Int: 2}, {}})), []string{"id", "note"}},
		// Inserted and deleted rows do not count.
		{api.Delta{Table: "t", Inserted: lines(1, 3), Deleted: lines(5, 3)}, nil},
		{api.Delta{Table: "t", Inserted: lines(1, 3), Deleted: lines(5, 3), Updated: []api.Pair{pair(1, base, row(1, 9, "a"))}}, []string{"id"}},
		// Only columns that both rows have are compared.
		{updates(pair(1, base, nil)), nil},
		{updates(pair(1, nil, base)), nil},
		{updates(pair(1, base, base[:2])), nil},
		{updates(pair(1, base, cells(9))), []string{"n"}},
		{updates(pair(1, cells(8, 8), base)), []string{"n", "id"}},
		{updates(pair(1, base[:1], base), pair(1, base, base[:2]), pair(1, base, row(1, 2, "b"))), []string{"note"}},
		{updates(pair(1, cells(1, 2, 3, 4), cells(1, 2, 3, 5))), nil},
		{updates(pair(1, cells(1, 2, 3, 4), cells(0, 2, 3))), []string{"n"}},
	} {
		if got := Changed(c.d, s); !slices.Equal(got, c.want) {
			t.Errorf("%d: Changed(%v) is %v, want %v", i, c.d, got, c.want)
		}
	}
	// The schema may be any, also of another table.
	d := updates(pair(1, cells(1, 2), cells(3, 4)))
	if got := Changed(d, api.Schema{}); len(got) != 0 {
		t.Errorf("without columns, %v have changed", got)
	}
	if got := Changed(d, api.Schema{Columns: []api.Column{{Name: "z"}, {Name: ""}, {Name: "a"}}}); !slices.Equal(got, []string{"z", ""}) {
		t.Errorf("of any columns, %q have changed", got)
	}
}

// P8.4: the rows that left and those that came, in order.
func TestBags(t *testing.T) {
	d := api.Delta{
		Table:    "t",
		Inserted: []api.Row{row(9, 50, 5), row(10, 20, 2), row(12, 40)},
		Deleted:  []api.Row{row(2, 30, 1), row(3, 10, 7)},
		Updated:  []api.Pair{pair(4, cells(20, 2), cells(45, 4)), pair(7, cells(5, 5), cells(20, 2))},
	}
	for i, c := range []struct {
		d          api.Delta
		left, came [][]api.Value
	}{
		{d, [][]api.Value{cells(5, 5), cells(10, 7), cells(20, 2), cells(30, 1)}, [][]api.Value{cells(20, 2), cells(20, 2), cells(40), cells(45, 4), cells(50, 5)}},
		{api.Delta{}, nil, nil},
		{inserts(row(1, 2, 2), row(2, 1, 1)), nil, [][]api.Value{cells(1, 1), cells(2, 2)}},
		{deletes(row(1, 2, 2), row(2, 1, 1)), [][]api.Value{cells(1, 1), cells(2, 2)}, nil},
		{updates(pair(1, cells(2), cells(3)), pair(2, cells(1), cells(0))), [][]api.Value{cells(1), cells(2)}, [][]api.Value{cells(0), cells(3)}},
		// A row that stays the same has left and come.
		{updates(pair(1, cells(2), cells(2))), [][]api.Value{cells(2)}, [][]api.Value{cells(2)}},
		{updates(pair(1, nil, cells(2)), pair(2, cells(1), nil)), [][]api.Value{nil, cells(1)}, [][]api.Value{nil, cells(2)}},
	} {
		left, came := Bags(c.d)
		if !slices.EqualFunc(left, c.left, slices.Equal[[]api.Value]) {
			t.Errorf("%d: %v left, want %v", i, left, c.left)
		}
		if !slices.EqualFunc(came, c.came, slices.Equal[[]api.Value]) {
			t.Errorf("%d: %v came, want %v", i, came, c.came)
		}
	}
}

// noise gives numbers that look random and are the same in every run.
type noise uint32

func (n *noise) below(limit int) int {
	*n = *n*1664525 + 1013904223
	return int(*n>>8) % limit
}

// someTable returns a table of up to five rows with different keys.
func someTable(draw *noise) api.Table {
	x := with(1 + draw.below(2))
	for k := range int64(draw.below(6)) {
		x.Rows = append(x.Rows, row(x.Next, int64(draw.below(3)), k))
		x.Next += 1 + draw.below(2)
	}
	return x
}

// someLater returns a table that is mostly a later state of x, and seldom has a row or a Next that rules this out.
func someLater(draw *noise, x api.Table) api.Table {
	later := with(x.Next + draw.below(3))
	for _, r := range x.Rows {
		switch draw.below(5) {
		case 0:
		case 1:
			later.Rows = append(later.Rows, row(r.ID, int64(draw.below(3)), r.Values[1].Int+int64(draw.below(3))))
		default:
			later.Rows = append(later.Rows, r)
		}
	}
	for range draw.below(3) {
		later.Rows = append(later.Rows, row(later.Next, int64(draw.below(3)), int64(5+draw.below(30))))
		later.Next += 1 + draw.below(2)
	}
	switch draw.below(20) {
	case 0:
		later.Next -= draw.below(4)
	case 1:
		if len(later.Rows) > 0 {
			later.Rows[draw.below(len(later.Rows))].ID += draw.below(2)
		}
	}
	return later
}

// byNumber returns the values of each row.
func byNumber(x api.Table) map[int][]api.Value {
	rows := make(map[int][]api.Value)
	for _, r := range x.Rows {
		rows[r.ID] = r.Values
	}
	return rows
}

// difference looks up each row of one table in the other one.
func difference(a, b api.Table) (api.Delta, bool) {
	old, later := byNumber(a), byNumber(b)
	d := api.Delta{Table: "t"}
	for _, r := range a.Rows {
		if later[r.ID] == nil {
			d.Deleted = append(d.Deleted, r)
		} else if !slices.Equal(later[r.ID], r.Values) {
			d.Updated = append(d.Updated, pair(r.ID, r.Values, later[r.ID]))
		}
	}
	for _, r := range b.Rows {
		if old[r.ID] == nil {
			d.Inserted = append(d.Inserted, r)
			if r.ID < a.Next {
				return api.Delta{}, false
			}
		}
	}
	return d, table.Valid(a) && table.Valid(b) && a.Next <= b.Next
}

// P8.1, P8.5: many pairs of states, against rows that are looked up one by one.
func TestManyStates(t *testing.T) {
	draw := noise(8)
	seen := make(map[bool]int)
	for range 30000 {
		a := someTable(&draw)
		b := someLater(&draw, a)
		want, ok := difference(a, b)
		seen[ok]++
		if ok {
			checkBetween(t, "many", a, b, want)
		} else {
			refuseBetween(t, "many", a, b)
		}
		if t.Failed() {
			return
		}
	}
	if seen[true] < 1000 || seen[false] < 1000 {
		t.Errorf("the states are too much alike: %v", seen)
	}
}

// blur returns a difference that may have one fault.
func blur(draw *noise, d api.Delta) api.Delta {
	rows := []*[]api.Row{&d.Inserted, &d.Deleted}[draw.below(2)]
	if len(*rows) == 0 || len(d.Updated) == 0 {
		return d
	}
	*rows = slices.Clone(*rows)
	d.Updated = slices.Clone(d.Updated)
	one := &(*rows)[draw.below(len(*rows))]
	pair := &d.Updated[draw.below(len(d.Updated))]
	switch draw.below(10) {
	case 0:
		one.ID += draw.below(3) - 1
	case 1:
		one.Values = cells(one.Values[0].Int, int64(draw.below(6)))
	case 2:
		pair.ID += draw.below(3) - 1
	case 3:
		pair.Old = cells(pair.Old[0].Int, int64(draw.below(6)))
	case 4:
		pair.New = cells(pair.New[0].Int, int64(draw.below(6)))
	case 5:
		slices.Reverse(*rows)
	case 6:
		slices.Reverse(d.Updated)
	case 7:
		pair.ID = one.ID
		pair.Old = one.Values
	}
	return d
}

// ascending reports whether numbers ascend.
func ascending(numbers []int) bool {
	return slices.IsSorted(numbers) && len(slices.Compact(slices.Clone(numbers))) == len(numbers)
}

// afterwards makes a difference step by step on rows by number, or returns false if it is none.
func afterwards(x api.Table, d api.Delta) (api.Table, bool) {
	rows := byNumber(x)
	var inserted, deleted, updated []int
	for _, r := range d.Deleted {
		if rows[r.ID] == nil || !slices.Equal(rows[r.ID], r.Values) {
			return api.Table{}, false
		}
		deleted = append(deleted, r.ID)
	}
	for _, p := range d.Updated {
		if rows[p.ID] == nil || !slices.Equal(rows[p.ID], p.Old) || slices.Contains(deleted, p.ID) {
			return api.Table{}, false
		}
		updated = append(updated, p.ID)
	}
	for _, p := range d.Updated {
		rows[p.ID] = p.New
	}
	for _, n := range deleted {
		delete(rows, n)
	}
	after := api.Table{Schema: x.Schema, Next: x.Next}
	for _, r := range d.Inserted {
		if r.ID < x.Next {
			return api.Table{}, false
		}
		rows[r.ID] = r.Values
		inserted = append(inserted, r.ID)
		after.Next = max(after.Next, r.ID+1)
	}
	for n, r := range rows {
		after.Rows = append(after.Rows, api.Row{ID: n, Values: r})
	}
	slices.SortFunc(after.Rows, func(a, b api.Row) int { return a.ID - b.ID })
	if !ascending(inserted) || !ascending(deleted) || !ascending(updated) || !table.Valid(after) {
		return api.Table{}, false
	}
	return after, true
}

// P8.3: many differences, some of which have a fault, against differences that are made step by step.
func TestManyDifferences(t *testing.T) {
	draw := noise(88)
	seen := make(map[bool]int)
	for range 60000 {
		a := someTable(&draw)
		d, ok := Between(a, someLater(&draw, a))
		if !ok {
			continue
		}
		d = blur(&draw, d)
		want, ok := afterwards(a, d)
		seen[ok]++
		checkApply(t, "many", a, d, want)
		if t.Failed() {
			return
		}
	}
	if seen[true] < 1000 || seen[false] < 1000 {
		t.Errorf("the differences are too much alike: %v", seen)
	}
}

// fill overwrites a list up to its capacity.
func fill[E any](l []E, with E) {
	for i := range l[:cap(l)] {
		l[:cap(l)][i] = with
	}
}

// fillTable overwrites a table with all its lists.
func fillTable(x api.Table) {
	fillRows(x.Rows)
	fill(x.Schema.Columns, note)
}

func fillRows(l []api.Row) {
	for _, r := range l {
		fill(r.Values, text("overwritten"))
	}
	fill(l, row(99, 99))
}

// fillDelta overwrites a difference with all its lists.
func fillDelta(d api.Delta) {
	fillRows(d.Inserted)
	fillRows(d.Deleted)
	for _, p := range d.Updated {
		fill(p.Old, text("overwritten"))
		fill(p.New, text("overwritten"))
	}
	fill(d.Updated, pair(99, nil, nil))
}

// spare returns a list with the same elements and one more in its spare capacity.
func spare[E any](l []E, more E) []E {
	return append(slices.Clip(l), more)[:len(l)]
}

// roomyRows returns rows with something in the spare capacity of all lists.
func roomyRows(l []api.Row) []api.Row {
	l = slices.Clone(l)
	for i, r := range l {
		l[i].Values = spare(r.Values, text("spare"))
	}
	return spare(l, row(8, 8, 8))
}

// roomyTable does the same for a table.
func roomyTable(x api.Table) api.Table {
	x.Schema.Columns = spare(x.Schema.Columns, note)
	x.Rows = roomyRows(x.Rows)
	return x
}

// roomyDelta does the same for a difference.
func roomyDelta(d api.Delta) api.Delta {
	d.Inserted, d.Deleted = roomyRows(d.Inserted), roomyRows(d.Deleted)
	d.Updated = slices.Clone(d.Updated)
	for i, p := range d.Updated {
		d.Updated[i].Old, d.Updated[i].New = spare(p.Old, text("spare")), spare(p.New, text("spare"))
	}
	d.Updated = spare(d.Updated, pair(8, nil, nil))
	return d
}

// wholeRows returns rows with all lists up to their capacities.
func wholeRows(l []api.Row) []api.Row {
	l = slices.Clone(l[:cap(l)])
	for i, r := range l {
		l[i].Values = r.Values[:cap(r.Values)]
	}
	return l
}

// wholeTable does the same for a table.
func wholeTable(x api.Table) api.Table {
	x.Schema.Columns = x.Schema.Columns[:cap(x.Schema.Columns)]
	x.Rows = wholeRows(x.Rows)
	return x
}

// wholeDelta does the same for a difference.
func wholeDelta(d api.Delta) api.Delta {
	d.Inserted, d.Deleted = wholeRows(d.Inserted), wholeRows(d.Deleted)
	d.Updated = slices.Clone(d.Updated[:cap(d.Updated)])
	for i, p := range d.Updated {
		d.Updated[i].Old, d.Updated[i].New = p.Old[:cap(p.Old)], p.New[:cap(p.New)]
	}
	return d
}

// later is a later state of stock; mixed is the difference.
func later() api.Table {
	return with(11, row(2, 11, 1), row(7, 30, 3), row(10, 50, 5))
}

func mixed() api.Delta {
	return api.Delta{Table: "t", Inserted: []api.Row{row(10, 50, 5)}, Deleted: []api.Row{row(4, 20, 2)}, Updated: []api.Pair{pair(2, first(), cells(11, 1))}}
}

// R2: Between and Apply leave their arguments as they are, with all spare capacity, also when the result is overwritten.
func TestStatesStay(t *testing.T) {
	a, b, d := roomyTable(stock()), roomyTable(later()), roomyDelta(mixed())
	got, ok := Between(a, b)
	if !ok || !equalDelta(got, mixed()) {
		t.Errorf("Between is %v, %v", got, ok)
	}
	fillDelta(got)
	after, ok := Apply(a, d)
	if !ok || !equalTable(after, later()) {
		t.Errorf("Apply is %v, %v", after, ok)
	}
	fillTable(after)
	if !equalTable(wholeTable(a), wholeTable(roomyTable(stock()))) || !equalTable(wholeTable(b), wholeTable(roomyTable(later()))) {
		t.Errorf("the tables are %v and %v", wholeTable(a), wholeTable(b))
	}
	if !equalDelta(wholeDelta(d), wholeDelta(roomyDelta(mixed()))) {
		t.Errorf("the difference is %v", wholeDelta(d))
	}
}

// R2: the results of Between and Apply stay as they are when the arguments are overwritten.
func TestStatesAreNotKept(t *testing.T) {
	a, b := roomyTable(stock()), roomyTable(later())
	got, _ := Between(a, b)
	fillTable(a)
	fillTable(b)
	if !equalDelta(got, mixed()) {
		t.Errorf("Between is %v after the arguments have changed", got)
	}
	a, d := roomyTable(stock()), roomyDelta(mixed())
	after, _ := Apply(a, d)
	fillTable(a)
	fillDelta(d)
	if !equalTable(after, later()) {
		t.Errorf("Apply is %v after the arguments have changed", after)
	}
}

// R2: Empty, Rows, Changed and Bags leave their arguments as they are and do not keep them.
func TestDifferenceStays(t *testing.T) {
	d, s := roomyDelta(mixed()), schema(spare([]api.Column{count, id}, note)...)
	Empty(d)
	Rows(d, api.Insert)
	names := Changed(d, s)
	fill(names, "overwritten")
	left, came := Bags(d)
	fill(left[0], text("overwritten"))
	fill(left, cells(99))
	fill(came[0], text("overwritten"))
	fill(came, cells(99))
	if !equalDelta(wholeDelta(d), wholeDelta(roomyDelta(mixed()))) {
		t.Errorf("the difference is %v", wholeDelta(d))
	}
	if !slices.Equal(s.Columns[:3], []api.Column{count, id, note}) {
		t.Errorf("the columns are %v", s.Columns)
	}
	left, came = Bags(d)
	fillDelta(d)
	if !slices.EqualFunc(left, [][]api.Value{first(), second()}, slices.Equal[[]api.Value]) || !slices.EqualFunc(came, [][]api.Value{cells(11, 1), cells(50, 5)}, slices.Equal[[]api.Value]) {
		t.Errorf("Bags is %v, %v after the argument has changed", left, came)
	}
}

// R2: lists of a result share no memory with each other, though they are the same memory in the arguments.
func TestListsAreNew(t *testing.T) {
	shared, other := cells(5, 5), cells(6, 6)
	s := schema(count, api.Column{Name: "m", Type: api.Int})
	a := api.Table{Schema: s, Next: 4, Rows: []api.Row{{ID: 1, Values: shared}, {ID: 2, Values: shared}, {ID: 3, Values: shared}}}
	b := api.Table{Schema: s, Next: 6, Rows: []api.Row{{ID: 2, Values: other}, {ID: 3, Values: other}, {ID: 4, Values: other}, {ID: 5, Values: other}}}
	// lists returns the lists of the two results that hold values.
	lists := func() [][]api.Value {
		d, ok := Between(a, b)
		after, done := Apply(a, d)
		if !ok || !done {
			t.Fatal("there is no difference")
		}
		left, came := Bags(d)
		l := append(left, came...)
		for _, r := range slices.Concat(d.Inserted, d.Deleted, after.Rows) {
			l = append(l, r.Values)
		}
		for _, p := range d.Updated {
			l = append(l, p.Old, p.New)
		}
		return l
	}
	for i := range lists() {
		l := lists()
		fill(l[i], text("overwritten"))
		for j, values := range l {
			if j != i && !slices.Equal(values, shared) && !slices.Equal(values, other) {
				t.Errorf("the lists %d and %d share memory", i, j)
			}
		}
	}
}

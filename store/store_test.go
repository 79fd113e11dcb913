package store

import (
	"fmt"
	"math"
	"slices"
	"testing"

	"triggerstore/api"
	"triggerstore/delta"
	"triggerstore/keys"
	"triggerstore/table"
)

func number(n int64) api.Value { return api.Value{Kind: api.Int, Int: n} }

func text(s string) api.Value { return api.Value{Kind: api.Text, Text: s} }

// cells returns a row of numbers.
func cells(numbers ...int64) []api.Value {
	var l []api.Value
	for _, n := range numbers {
		l = append(l, number(n))
	}
	return l
}

// row returns a row of numbers with its number.
func row(id int, numbers ...int64) api.Row {
	return api.Row{ID: id, Values: cells(numbers...)}
}

var (
	id   = api.Column{Name: "id", Type: api.Int, NotNull: true, Key: true}
	note = api.Column{Name: "n", Type: api.Int}
)

// named returns a table with a key and another column.
func named(name string, next int, rows ...api.Row) api.Table {
	return api.Table{Schema: api.Schema{Name: name, Columns: []api.Column{id, note}}, Next: next, Rows: rows}
}

// stock is a table with the rows 2, 4 and 7; items is one with the row 1, and orders has none.
func stock() api.Table  { return named("stock", 9, row(2, 1, 10), row(4, 2, 20), row(7, 3, 30)) }
func items() api.Table  { return named("items", 2, row(1, 5, 50)) }
func orders() api.Table { return named("orders", 1) }

// shop is a store of these tables.
func shop() []api.Table { return []api.Table{items(), orders(), stock()} }

// tables returns so many tables without rows.
func tables(amount int) []api.Table {
	var l []api.Table
	for i := range amount {
		l = append(l, named(fmt.Sprint("t", i), 1))
	}
	return l
}

// lines returns so many rows with numbers and keys from the first one on.
func lines(first, amount int) []api.Row {
	var l []api.Row
	for i := range amount {
		l = append(l, row(first+i, int64(first+i), 0))
	}
	return l
}

// equalRow, equalTable, equalStore, equalEntry, equalLog and equalDelta compare all fields; nil and empty lists are equal.
func equalRow(a, b api.Row) bool { return a.ID == b.ID && slices.Equal(a.Values, b.Values) }

func equalRows(a, b []api.Row) bool { return slices.EqualFunc(a, b, equalRow) }

func equalTable(a, b api.Table) bool {
	return a.Schema.Name == b.Schema.Name && slices.Equal(a.Schema.Columns, b.Schema.Columns) && a.Next == b.Next && equalRows(a.Rows, b.Rows)
}

func equalStore(a, b []api.Table) bool { return slices.EqualFunc(a, b, equalTable) }

func equalEntry(a, b api.Undo) bool {
	return a.Table == b.Table && a.Next == b.Next && slices.Equal(a.Inserted, b.Inserted) && equalRows(a.Deleted, b.Deleted) && equalRows(a.Updated, b.Updated)
}

func equalLog(a, b []api.Undo) bool { return slices.EqualFunc(a, b, equalEntry) }

func equalPair(a, b api.Pair) bool {
	return a.ID == b.ID && slices.Equal(a.Old, b.Old) && slices.Equal(a.New, b.New)
}

func equalDelta(a, b api.Delta) bool {
	return a.Table == b.Table && equalRows(a.Inserted, b.Inserted) && equalRows(a.Deleted, b.Deleted) && slices.EqualFunc(a.Updated, b.Updated, equalPair)
}

// invalid returns tables with this name that are not valid.
func invalid(name string) []api.Table {
	wrong := named(name, 1)
	wrong.Schema.Columns = nil
	return []api.Table{
		wrong,
		named(name, 0),
		named(name, -1),
		named(name, 1<<31+1),
		named(name, 2, row(2, 1, 1)),
		named(name, 9, row(2, 1, 1), row(4, 1, 2)),
		named(name, 9, row(4, 1, 1), row(2, 2, 2)),
		named(name, 9, row(2, 1)),
		named(name, 9, api.Row{ID: 2, Values: []api.Value{{}, number(1)}}),
		named(name, 900, lines(1, api.MaxRows+1)...),
	}
}

// P9.1: a store has at most MaxTables tables, all valid, ascending by name.
func TestValid(t *testing.T) {
	for i, c := range []struct {
		l    []api.Table
		want bool
	}{
		{nil, true},
		{[]api.Table{}, true},
		{[]api.Table{stock()}, true},
		{shop(), true},
		{[]api.Table{orders(), items(), stock()}, false},
		{[]api.Table{items(), stock(), orders()}, false},
		{[]api.Table{stock(), stock()}, false},
		{[]api.Table{items(), orders(), orders(), stock()}, false},
		{[]api.Table{named("a", 1), named("b", 1), named("a", 1)}, false},
		// Names are compared bytewise: digits and underscores are before letters, a name before a longer one.
		{[]api.Table{named("a", 1), named("a0", 1), named("a_", 1), named("aa", 1), named("b", 1)}, true},
		{[]api.Table{named("a_", 1), named("a0", 1)}, false},
		{[]api.Table{named("aa", 1), named("a_", 1)}, false},
		{[]api.Table{named("aa", 1), named("a", 1)}, false},
		{[]api.Table{named("t10", 1), named("t9", 1)}, true},
		{tables(api.MaxTables), true},
		{tables(api.MaxTables + 1), false},
		{[]api.Table{{}}, false},
	} {
		if got := Valid(c.l); got != c.want {
			t.Errorf("%d: Valid(%v) is %v", i, c.l, got)
		}
	}
	for i, x := range invalid("m") {
		for place := range 3 {
			l := slices.Insert([]api.Table{named("a", 1), named("z", 1)}, place, x)
			l[0].Schema.Name, l[1].Schema.Name, l[2].Schema.Name = "a", "m", "z"
			if Valid(l) {
				t.Errorf("%d: Valid(%v) is true", i, l)
			}
		}
	}
}

// P9.1: the first table with a name, whether the store is valid or not.
func TestFind(t *testing.T) {
	twice := []api.Table{stock(), items(), stock(), items(), {}}
	for i, c := range []struct {
		l    []api.Table
		name string
		want int
	}{
		{nil, "stock", -1},
		{nil, "", -1},
		{shop(), "items", 0},
		{shop(), "orders", 1},
		{shop(), "stock", 2},
		{shop(), "", -1},
		{shop(), "a", -1},
		{shop(), "item", -1},
		{shop(), "itemss", -1},
		{shop(), "Stock", -1},
		{shop(), "z", -1},
		{twice, "stock", 0},
		{twice, "items", 1},
		{twice, "", 4},
		{tables(20), "t19", 19},
	} {
		if got := Find(c.l, c.name); got != c.want {
			t.Errorf("%d: Find(%v, %q) is %d, want %d", i, c.l, c.name, got, c.want)
		}
	}
}

// checkPut compares the store with t; want is nil if there is none.
func checkPut(t *testing.T, name any, l []api.Table, x api.Table, want []api.Table) {
	t.Helper()
	got, ok := Put(l, x)
	if ok != (want != nil) || !equalStore(got, want) {
		t.Errorf("%v: Put(%v, %v) is %v, %v; want %v", name, l, x, got, ok, want)
	}
}

// P9.1: a table goes to the place of its name, and takes that of the one with the same name.
func TestPut(t *testing.T) {
	first, second, third := items(), orders(), stock()
	other := api.Table{Schema: api.Schema{Name: "orders", Columns: []api.Column{note}}, Next: 3, Rows: []api.Row{row(1, 7)}}
	for i, c := range []struct {
		x    api.Table
		want []api.Table
	}{
		{named("a", 1), []api.Table{named("a", 1), first, second, third}},
		{named("item", 1), []api.Table{named("item", 1), first, second, third}},
		{named("items_", 4, row(3, 1, 1)), []api.Table{first, named("items_", 4, row(3, 1, 1)), second, third}},
		{named("p", 1), []api.Table{first, second, named("p", 1), third}},
		{named("z", 1), []api.Table{first, second, third, named("z", 1)}},
		{named("items", 7, row(6, 1, 1)), []api.Table{named("items", 7, row(6, 1, 1)), second, third}},
		{named("items", 1), []api.Table{named("items", 1), second, third}},
		{named("stock", 9), []api.Table{first, second, named("stock", 9)}},
		{third, shop()},
		// A table with the same name may have other columns.
		{other, []api.Table{first, other, third}},
	} {
		checkPut(t, i, shop(), c.x, c.want)
	}
	checkPut(t, "the first table", nil, stock(), []api.Table{stock()})
	full := tables(api.MaxTables)
	for i := range full {
		want := slices.Clone(full)
		want[i] = named(full[i].Schema.Name, 3, row(1, 1, 1))
		checkPut(t, i, full, want[i], want)
		checkPut(t, i, slices.Delete(slices.Clone(full), i, i+1), full[i], full)
	}
}

// P9.1: there is no result that is not a store, and none of a list that is not a store.
func TestPutInvalid(t *testing.T) {
	for i, x := range invalid("orders") {
		checkPut(t, i, shop(), x, nil)
		checkPut(t, i, nil, x, nil)
		broken := shop()
		broken[1] = x
		checkPut(t, i, broken, items(), nil)
		checkPut(t, i, broken, named("a", 1), nil)
		// A table that would make the store valid does not make it valid before.
		checkPut(t, i, broken, orders(), nil)
	}
	checkPut(t, "no name", shop(), named("", 1), nil)
	checkPut(t, "zero", nil, api.Table{}, nil)
	checkPut(t, "keyword", shop(), named("NULL", 1), nil)
	checkPut(t, "too many", tables(api.MaxTables), named("a", 1), nil)
	checkPut(t, "too many", tables(api.MaxTables), named("z", 1), nil)
	checkPut(t, "too many before", tables(api.MaxTables+1), named("t0", 1), nil)
	checkPut(t, "descending", []api.Table{stock(), items()}, items(), nil)
	checkPut(t, "descending", []api.Table{stock(), items()}, named("z", 1), nil)
	checkPut(t, "twice", []api.Table{stock(), stock()}, stock(), nil)
}

// checkRecord compares a log with what is wanted.
func checkRecord(t *testing.T, name any, log []api.Undo, before, after api.Table, want []api.Undo) {
	t.Helper()
	got, ok := Record(log, before, after)
	if !ok || !equalLog(got, want) {
		t.Errorf("%v: Record(%v, %v, %v) is %v, %v; want %v", name, log, before, after, got, ok, want)
	}
}

// refuseRecord requires that there is no entry for a step.
func refuseRecord(t *testing.T, name any, before, after api.Table) {
	t.Helper()
	for _, log := range [][]api.Undo{nil, {{Table: "stock", Next: 3}}} {
		got, ok := Record(log, before, after)
		if ok || len(got) != 0 {
			t.Errorf("%v: Record(%v, %v, %v) is %v, %v; want none", name, log, before, after, got, ok)
		}
	}
}

// P9.2: an entry has Next and the rows as they were before the step.
func TestRecord(t *testing.T) {
	for i, c := range []struct {
		after api.Table
		want  api.Undo
	}{
		{stock(), api.Undo{}},
		{named("stock", 20, stock().Rows...), api.Undo{}},
		{named("stock", 9), api.Undo{Deleted: stock().Rows}},
		{named("stock", 9, row(4, 2, 20)), api.Undo{Deleted: []api.Row{row(2, 1, 10), row(7, 3, 30)}}},
		{named("stock", 9, row(2, 1, 11), row(4, 2, 20), row(7, 1<<40, 30)), api.Undo{Updated: []api.Row{row(2, 1, 10), row(7, 3, 30)}}},
		{named("stock", 12, append(stock().Rows, row(9, 8, 8), row(11, 9, 9))...), api.Undo{Inserted: []int{9, 11}}},
		{named("stock", 99, row(4, 1, 0), row(7, 3, 30), row(50, 2, 20), row(98, 4, 40)), api.Undo{Inserted: []int{50, 98}, Deleted: []api.Row{row(2, 1, 10)}, Updated: []api.Row{row(4, 2, 20)}}},
	} {
		c.want.Table, c.want.Next = "stock", 9
		checkRecord(t, i, nil, stock(), c.after, []api.Undo{c.want})
		// The entries before it stay, whatever they are.
		log := []api.Undo{{}, {Table: "x", Next: -1, Inserted: []int{0, 0}, Deleted: []api.Row{{}, row(9, 9)}, Updated: []api.Row{row(-3, 1, 2, 3)}}, c.want}
		checkRecord(t, i, log, stock(), c.after, append(slices.Clone(log), c.want))
	}
	checkRecord(t, "first rows", nil, orders(), named("orders", 3, lines(1, 2)...), []api.Undo{{Table: "orders", Next: 1, Inserted: []int{1, 2}}})
	checkRecord(t, "last number", nil, orders(), named("orders", 1<<31, row(1<<31-1, 1, 1)), []api.Undo{{Table: "orders", Next: 1, Inserted: []int{1<<31 - 1}}})
}

// P9.2: there is no entry where there is no difference.
func TestRecordInvalid(t *testing.T) {
	for i, x := range invalid("stock") {
		refuseRecord(t, i, x, x)
		refuseRecord(t, i, x, stock())
		refuseRecord(t, i, stock(), x)
	}
	refuseRecord(t, "zero", api.Table{}, api.Table{})
	refuseRecord(t, "another table", stock(), named("stocks", 9, stock().Rows...))
	other := stock()
	other.Schema.Columns[1].NotNull = true
	refuseRecord(t, "other columns", stock(), other)
	refuseRecord(t, "a smaller Next", stock(), named("stock", 8, stock().Rows...))
	refuseRecord(t, "a number given again", stock(), named("stock", 9, row(8, 1, 1)))
	refuseRecord(t, "a step back", named("stock", 10, row(9, 1, 1)), stock())
}

// checkRollback compares the store that is reached and the entries that are left.
func checkRollback(t *testing.T, name any, l []api.Table, log []api.Undo, to int, want []api.Table) {
	t.Helper()
	got, rest, ok := Rollback(l, log, to)
	if !ok || !equalStore(got, want) || !equalLog(rest, log[:to]) {
		t.Errorf("%v: Rollback(%v, %v, %d) is %v, %v, %v; want %v, %v", name, l, log, to, got, rest, ok, want, log[:to])
	}
}

// refuseRollback requires that the log cannot be rolled back.
func refuseRollback(t *testing.T, name any, l []api.Table, log []api.Undo, to int) {
	t.Helper()
	got, rest, ok := Rollback(l, log, to)
	if ok || len(got) != 0 || len(rest) != 0 {
		t.Errorf("%v: Rollback(%v, %v, %d) is %v, %v, %v; want none", name, l, log, to, got, rest, ok)
	}
}

// with returns shop with another state of stock.
func with(next int, rows ...api.Row) []api.Table {
	return []api.Table{items(), orders(), named("stock", next, rows...)}
}

// entry returns an entry of stock.
func entry(next int, inserted []int, deleted, updated []api.Row) api.Undo {
	return api.Undo{Table: "stock", Next: next, Inserted: inserted, Deleted: deleted, Updated: updated}
}

// P9.3: rows go, come back in the order of numbers and get back their values; Next is set back.
func TestRollback(t *testing.T) {
	rows := stock().Rows
	for i, c := range []struct {
		entry api.Undo
		want  []api.Table
	}{
		{entry(9, nil, nil, nil), shop()},
		{entry(8, nil, nil, nil), with(8, rows...)},
		{entry(1<<31, nil, nil, nil), with(1<<31, rows...)},
		{entry(7, []int{7}, nil, nil), with(7, rows[:2]...)},
		{entry(9, []int{2}, nil, nil), with(9, rows[1:]...)},
		{entry(5, []int{7, 2}, nil, nil), with(5, rows[1])},
		{entry(1, []int{4, 7, 2}, nil, nil), with(1)},
		{entry(9, nil, []api.Row{row(1, 8, 8)}, nil), with(9, row(1, 8, 8), rows[0], rows[1], rows[2])},
		{entry(9, nil, []api.Row{row(8, 8, 8), row(3, 9, 9), row(6, 7, 7)}, nil), with(9, rows[0], row(3, 9, 9), rows[1], row(6, 7, 7), rows[2], row(8, 8, 8))},
		{entry(99, nil, []api.Row{row(98, 8, 8)}, nil), with(99, append(stock().Rows, row(98, 8, 8))...)},
		{entry(9, nil, nil, []api.Row{row(4, 2, 0)}), with(9, rows[0], row(4, 2, 0), rows[2])},
		{entry(9, nil, nil, []api.Row{row(7, 1, 1), row(2, 3, 3)}), with(9, row(2, 3, 3), rows[1], row(7, 1, 1))},
		{entry(9, nil, nil, []api.Row{rows[0]}), shop()},
		{entry(6, []int{7}, []api.Row{row(5, 1, 1), row(3, 3, 3)}, []api.Row{row(2, 9, 9)}), with(6, row(2, 9, 9), row(3, 3, 3), rows[1], row(5, 1, 1))},
	} {
		checkRollback(t, i, shop(), []api.Undo{c.entry}, 0, c.want)
		// Nothing happens to the entries ahead of the index, whatever they are.
		checkRollback(t, i, shop(), []api.Undo{{}, {Table: "nowhere", Next: -1, Inserted: []int{5, 5}}, c.entry}, 2, c.want)
		checkRollback(t, i, shop(), []api.Undo{c.entry, {Inserted: []int{0}}}, 2, shop())
	}
	checkRollback(t, "nothing", nil, nil, 0, nil)
	checkRollback(t, "nothing", shop(), nil, 0, shop())
}

// P9.3: entries are undone from the last one on, each in its own table.
func TestRollbackOrder(t *testing.T) {
	log := []api.Undo{
		entry(3, nil, nil, []api.Row{row(2, 1, 1)}),
		entry(4, []int{5, 4}, nil, []api.Row{row(2, 1, 2)}),
		{Table: "items", Next: 9, Inserted: []int{1}, Deleted: []api.Row{row(8, 6, 6)}},
		entry(6, nil, []api.Row{row(5, 5, 5)}, []api.Row{row(2, 1, 3)}),
		entry(8, []int{7}, nil, []api.Row{row(2, 1, 4)}),
	}
	third := named("stock", 6, row(2, 1, 3), row(4, 2, 20), row(5, 5, 5))
	changed := named("items", 9, row(8, 6, 6))
	for to, want := range [][]api.Table{
		{changed, orders(), named("stock", 3, row(2, 1, 1))},
		{changed, orders(), named("stock", 4, row(2, 1, 2))},
		{changed, orders(), third},
		{items(), orders(), third},
		with(8, row(2, 1, 4), row(4, 2, 20)),
		shop(),
	} {
		checkRollback(t, to, shop(), log, to, want)
	}
}

// P9.3: only the store after all has to be valid, so that one entry may put right what a later one leaves.
func TestRollbackOnTheWay(t *testing.T) {
	rows := stock().Rows
	back := []api.Row{rows[0]}
	numbers := func(rows []api.Row) []int {
		var l []int
		for _, r := range rows {
			l = append(l, r.ID)
		}
		return l
	}
	many := lines(200, api.MaxRows)
	odd := []api.Row{row(0, 6, 6), row(-3, 7, 7), row(9, 8, 8), row(1<<31, 9, 9), row(math.MinInt, 4, 4), row(math.MaxInt, 5, 5)}
	for i, c := range []struct {
		last, first api.Undo
		want        []api.Table
	}{
		{entry(1, nil, nil, nil), entry(9, nil, nil, nil), shop()},
		{entry(-1, nil, nil, nil), entry(9, nil, nil, nil), shop()},
		{entry(math.MaxInt, nil, nil, nil), entry(9, nil, nil, nil), shop()},
		{entry(9, nil, nil, []api.Row{row(2, 2, 10)}), entry(9, nil, nil, []api.Row{row(4, 1, 20)}), with(9, row(2, 2, 10), row(4, 1, 20), rows[2])},
		{entry(9, nil, nil, []api.Row{row(2, 2, 10)}), entry(9, []int{4}, nil, nil), with(9, row(2, 2, 10), rows[2])},
		{entry(9, nil, nil, []api.Row{{ID: 2}}), entry(9, nil, nil, back), shop()},
		{entry(9, nil, nil, []api.Row{row(2, 1, 2, 3)}), entry(9, nil, nil, back), shop()},
		{entry(9, nil, nil, []api.Row{{ID: 2, Values: []api.Value{{}, {}}}}), entry(9, nil, nil, back), shop()},
		{entry(9, nil, nil, []api.Row{{ID: 2, Values: []api.Value{{Kind: 7}, text("a")}}}), entry(9, []int{2}, nil, nil), with(9, rows[1:]...)},
		{entry(9, nil, []api.Row{row(3, 1, 1)}, nil), entry(9, []int{3}, nil, nil), shop()},
		{entry(9, nil, odd, nil), entry(9, numbers(odd), nil, nil), shop()},
		{entry(9, nil, []api.Row{row(50, 6, 6)}, nil), entry(51, nil, nil, nil), with(51, append(stock().Rows, row(50, 6, 6))...)},
		{entry(900, nil, many, nil), entry(900, []int{2, 4, 7}, nil, nil), with(900, many...)},
	} {
		log := []api.Undo{c.first, c.last}
		checkRollback(t, i, shop(), log, 0, c.want)
		refuseRollback(t, i, shop(), log, 1)
	}
	// A row may go by one entry and come back by the next one.
	log := []api.Undo{entry(9, nil, []api.Row{row(4, 2, 0)}, nil), entry(9, []int{4}, nil, nil)}
	checkRollback(t, "back again", shop(), log, 0, with(9, rows[0], row(4, 2, 0), rows[2]))
}

// P9.3: to is an index of the log or its length, and the store is valid.
func TestRollbackInvalid(t *testing.T) {
	log := []api.Undo{entry(9, nil, nil, nil), entry(9, nil, nil, nil)}
	for _, to := range []int{-1, -2, 3, 4, 1 << 32, math.MaxInt, math.MinInt} {
		refuseRollback(t, to, shop(), log, to)
		refuseRollback(t, to, nil, nil, to)
	}
	for i, x := range invalid("stock") {
		for to := range 3 {
			refuseRollback(t, i, []api.Table{items(), orders(), x}, log, to)
		}
		// An entry that would make the store valid does not make it valid before.
		fix := entry(901, nil, nil, nil)
		for _, r := range x.Rows {
			if !slices.Contains(fix.Inserted, r.ID) {
				fix.Inserted = append(fix.Inserted, r.ID)
			}
		}
		refuseRollback(t, i, []api.Table{x}, []api.Undo{fix}, 0)
	}
	for i, l := range [][]api.Table{{stock(), items()}, {stock(), stock()}, {{}}, tables(api.MaxTables + 1)} {
		refuseRollback(t, i, l, nil, 0)
		refuseRollback(t, i, l, log, 2)
	}
}

// faults returns entries that cannot be undone in shop, by what is wrong with them.
func faults() map[string]api.Undo {
	there, other := row(2, 6, 6), row(3, 7, 7)
	l := map[string]api.Undo{
		"no name":                   {Next: 1},
		"no table":                  {Table: "orderss", Next: 1},
		"a capital letter":          {Table: "Stock", Next: 9},
		"inserted twice":            entry(9, []int{2, 2}, nil, nil),
		"inserted twice, apart":     entry(9, []int{2, 7, 2}, nil, nil),
		"deleted twice":             entry(9, nil, []api.Row{other, other}, nil),
		"deleted twice, apart":      entry(9, nil, []api.Row{other, row(5, 8, 8), row(3, 9, 9)}, nil),
		"updated twice":             entry(9, nil, nil, []api.Row{there, there}),
		"updated twice, apart":      entry(9, nil, nil, []api.Row{there, row(4, 2, 0), row(2, 7, 7)}),
		"inserted and deleted":      entry(9, []int{2}, []api.Row{there}, nil),
		"inserted and updated":      entry(9, []int{2}, nil, []api.Row{there}),
		"deleted and updated":       entry(9, nil, []api.Row{there}, []api.Row{there}),
		"deleted, then inserted":    entry(9, []int{3}, []api.Row{other}, nil),
		"deleted, then updated":     entry(9, nil, []api.Row{other}, []api.Row{other}),
		"the last one is missing":   entry(9, []int{2, 4, 8}, nil, nil),
		"the last one is there":     entry(9, nil, []api.Row{row(1, 6, 6), row(3, 7, 7), row(7, 8, 8)}, nil),
		"the last one is not there": entry(9, nil, nil, []api.Row{there, row(4, 8, 8), row(9, 9, 9)}),
	}
	for _, n := range []int{1, 3, 8, 9, 0, -1, -2, 1<<32 + 2, math.MinInt, math.MaxInt} {
		l[fmt.Sprint("inserted ", n)] = entry(9, []int{n}, nil, nil)
		l[fmt.Sprint("updated ", n)] = entry(9, nil, nil, []api.Row{row(n, 6, 6)})
	}
	for _, r := range stock().Rows {
		l[fmt.Sprint("deleted ", r.ID)] = entry(9, nil, []api.Row{r}, nil)
	}
	return l
}

// P9.3: an entry that does not agree with the rows cannot be undone, wherever it is in the log.
func TestRollbackFaults(t *testing.T) {
	fine := entry(9, nil, nil, []api.Row{row(7, 3, 0)})
	for name, e := range faults() {
		refuseRollback(t, name, shop(), []api.Undo{e}, 0)
		refuseRollback(t, name, shop(), []api.Undo{e, fine}, 0)
		refuseRollback(t, name, shop(), []api.Undo{fine, e}, 0)
		refuseRollback(t, name, shop(), []api.Undo{fine, fine, e, fine}, 2)
		checkRollback(t, name, shop(), []api.Undo{fine, fine, e, fine}, 3, with(9, row(2, 1, 10), row(4, 2, 20), row(7, 3, 0)))
	}
	// An entry of a table is held against the rows of that table.
	refuseRollback(t, "of another table", shop(), []api.Undo{{Table: "items", Next: 2, Inserted: []int{2}}}, 0)
	checkRollback(t, "of this table", shop(), []api.Undo{{Table: "items", Next: 2, Inserted: []int{1}}}, 0, []api.Table{named("items", 2), orders(), stock()})
}

// P9.3: the store after all is valid.
func TestRollbackResult(t *testing.T) {
	for i, e := range []api.Undo{
		entry(7, nil, nil, nil),
		entry(0, nil, nil, nil),
		entry(-5, []int{2, 4, 7}, nil, nil),
		entry(1<<31+1, nil, nil, nil),
		entry(math.MaxInt, nil, nil, nil),
		entry(9, nil, []api.Row{row(0, 6, 6)}, nil),
		entry(9, nil, []api.Row{row(-1, 6, 6)}, nil),
		entry(9, nil, []api.Row{row(9, 6, 6)}, nil),
		entry(9, nil, []api.Row{row(3, 1, 6)}, nil),
		entry(9, nil, []api.Row{row(3, 6, 6), row(5, 6, 7)}, nil),
		entry(9, nil, []api.Row{{ID: 3}}, nil),
		entry(9, nil, []api.Row{{ID: 3, Values: []api.Value{{}, number(1)}}}, nil),
		entry(9, nil, nil, []api.Row{row(2, 3, 10)}),
		entry(9, nil, nil, []api.Row{row(2, 1)}),
		entry(9, nil, nil, []api.Row{{ID: 2, Values: []api.Value{number(1), text("a")}}}),
		entry(9, nil, nil, []api.Row{{ID: 2, Values: []api.Value{number(1), {Kind: 4}}}}),
		entry(900, nil, lines(100, api.MaxRows-2), nil),
	} {
		refuseRollback(t, i, shop(), []api.Undo{e}, 0)
		refuseRollback(t, i, shop(), []api.Undo{e, {Table: "items", Next: 3}}, 0)
	}
	full := append(stock().Rows, lines(100, api.MaxRows-3)...)
	checkRollback(t, "all rows", shop(), []api.Undo{entry(900, nil, full[3:], nil)}, 0, with(900, full...))
}

// P9.5: the example of the chapter.
func TestStepsAndBack(t *testing.T) {
	before := stock()
	inserted, _ := keys.Apply(before, api.Change{Inserted: [][]api.Value{cells(4, 40), cells(5, 50)}})
	updated, _ := keys.Apply(inserted, api.Change{Updated: []api.Pair{{ID: 2, Old: cells(1, 10), New: cells(4, 11)}, {ID: 9, Old: cells(4, 40), New: cells(1, 40)}}, Deleted: []int{4, 10}})
	log, _ := Record(nil, before, inserted)
	log, ok := Record(log, inserted, updated)
	if !ok || updated.Next != 11 || len(updated.Rows) != 3 {
		t.Fatalf("the log of %v is %v", updated, log)
	}
	checkRollback(t, "back", []api.Table{updated}, log, 0, []api.Table{before})
	checkRollback(t, "half back", []api.Table{updated}, log, 1, []api.Table{inserted})
}

// noise gives numbers that look random and are the same in every run.
type noise uint32

func (n *noise) below(limit int) int {
	*n = *n*1664525 + 1013904223
	return int(*n>>8) % limit
}

// someStep returns a later state of x. Only new keys are given, so that each step is possible.
func someStep(draw *noise, x api.Table, key *int64) api.Table {
	later := named(x.Schema.Name, x.Next+draw.below(2))
	for _, r := range x.Rows {
		switch draw.below(6) {
		case 0:
		case 1:
			later.Rows = append(later.Rows, row(r.ID, r.Values[0].Int, int64(draw.below(3))))
		case 2:
			*key++
			later.Rows = append(later.Rows, row(r.ID, *key, r.Values[1].Int))
		default:
			later.Rows = append(later.Rows, r)
		}
	}
	for range draw.below(3) {
		*key++
		later.Rows = append(later.Rows, row(later.Next, *key, int64(draw.below(3))))
		later.Next += 1 + draw.below(2)
	}
	return later
}

// P9.2, P9.5: after many steps of several tables, each state is reached again, at once or in two parts.
func TestManySteps(t *testing.T) {
	draw := noise(9)
	for range 1000 {
		states := [][]api.Table{shop()}
		var log []api.Undo
		var key int64 = 1000
		for range draw.below(12) {
			l := slices.Clone(states[len(states)-1])
			i := draw.below(len(l))
			later := someStep(&draw, l[i], &key)
			longer, ok := Record(log, l[i], later)
			if !ok || !equalLog(longer[:len(log)], log) {
				t.Fatalf("Record(%v, %v, %v) is %v, %v", log, l[i], later, longer, ok)
			}
			log = longer
			l[i] = later
			states = append(states, l)
		}
		now := states[len(log)]
		for to, want := range states {
			checkRollback(t, "many", now, log, to, want)
			half, rest, _ := Rollback(now, log, to+draw.below(len(log)-to+1))
			checkRollback(t, "the rest", half, rest, to, want)
		}
		if t.Failed() {
			return
		}
	}
}

// someEntry returns an entry with few numbers, so that it often agrees with the rows of small tables.
func someEntry(draw *noise, l []api.Table) api.Undo {
	x := l[draw.below(len(l))]
	e := api.Undo{Table: x.Schema.Name, Next: 5 + draw.below(3)}
	for n := range 7 {
		found := slices.ContainsFunc(x.Rows, func(r api.Row) bool { return r.ID == n })
		if draw.below(40) == 0 {
			found = !found
		}
		r := row(n, int64(n), int64(draw.below(9)))
		switch draw.below(6) {
		case 0:
			if found {
				e.Inserted = append(e.Inserted, n)
			}
		case 1:
			if found {
				e.Updated = append(e.Updated, r)
			}
		case 2:
			if !found && n > 0 {
				e.Deleted = append(e.Deleted, r)
			}
		}
	}
	return e
}

// undoneByHand undoes one entry row by row, as the document says it.
func undoneByHand(l []api.Table, e api.Undo) ([]api.Table, bool) {
	at := slices.IndexFunc(l, func(t api.Table) bool { return t.Schema.Name == e.Table })
	if at < 0 {
		return nil, false
	}
	x := l[at]
	find := func(n int) int { return slices.IndexFunc(x.Rows, func(r api.Row) bool { return r.ID == n }) }
	var numbers []int
	x.Rows = slices.Clone(x.Rows)
	for _, r := range e.Updated {
		numbers = append(numbers, r.ID)
		if find(r.ID) < 0 {
			return nil, false
		}
		x.Rows[find(r.ID)] = r
	}
	for _, r := range e.Deleted {
		numbers = append(numbers, r.ID)
		if find(r.ID) >= 0 {
			return nil, false
		}
		x.Rows = append(x.Rows, r)
	}
	for _, n := range e.Inserted {
		numbers = append(numbers, n)
		if find(n) < 0 {
			return nil, false
		}
		x.Rows = slices.Delete(x.Rows, find(n), find(n)+1)
	}
	slices.Sort(numbers)
	if len(slices.Compact(slices.Clone(numbers))) != len(numbers) {
		return nil, false
	}
	slices.SortFunc(x.Rows, func(a, b api.Row) int { return a.ID - b.ID })
	x.Next = e.Next
	l = slices.Clone(l)
	l[at] = x
	return l, true
}

// P9.3: many logs, of which some do not belong to the store, against entries that are undone row by row.
func TestManyLogs(t *testing.T) {
	draw := noise(93)
	seen := make(map[bool]int)
	for range 40000 {
		l := []api.Table{named("a", 7, row(1, 1, 1), row(2, 2, 2), row(4, 4, 4)), named("b", 7, row(3, 3, 3), row(6, 6, 6))}
		log := make([]api.Undo, draw.below(4))
		to := draw.below(len(log) + 1)
		want, ok := l, true
		for i := len(log) - 1; i >= 0; i-- {
			log[i] = someEntry(&draw, want)
			if i < to || !ok {
				continue
			}
			var next []api.Table
			if next, ok = undoneByHand(want, log[i]); ok {
				want = next
			}
		}
		ok = ok && Valid(want)
		seen[ok]++
		if ok {
			checkRollback(t, "many", l, log, to, want)
		} else {
			refuseRollback(t, "many", l, log, to)
		}
		if t.Failed() {
			return
		}
	}
	if seen[true] < 1000 || seen[false] < 1000 {
		t.Errorf("the logs are too much alike: %v", seen)
	}
}

// P9.4: the bag of each table, in the order of the tables.
func TestBags(t *testing.T) {
	for i, l := range [][]api.Table{
		nil,
		shop(),
		{named("a", 9, row(1, 5, 5), row(2, 3, 3), row(4, 5, 5)), named("b", 1), named("c", 2, row(1, 0, 0))},
		// Any tables have bags.
		{stock(), items(), stock(), {}, named("", -1, row(5, 9), row(5), row(1, 2, 3, 4))},
		tables(api.MaxTables + 1),
	} {
		got := Bags(l)
		if len(got) != len(l) {
			t.Errorf("%d: Bags(%v) is %v", i, l, got)
			continue
		}
		for j, bag := range got {
			if want := table.Bag(l[j]); !slices.EqualFunc(bag, want, slices.Equal[[]api.Value]) {
				t.Errorf("%d: the bag of table %d is %v, want %v", i, j, bag, want)
			}
		}
	}
	got := Bags([]api.Table{named("b", 9, row(1, 5, 5), row(2, 3, 3)), items()})
	if want := [][][]api.Value{{cells(3, 3), cells(5, 5)}, {cells(5, 50)}}; fmt.Sprint(got) != fmt.Sprint(want) {
		t.Errorf("the bags are %v, want %v", got, want)
	}
}

// checkDeltas compares the differences of two stores.
func checkDeltas(t *testing.T, name any, a, b []api.Table, want ...api.Delta) {
	t.Helper()
	got, ok := Deltas(a, b)
	if !ok || !slices.EqualFunc(got, want, equalDelta) {
		t.Errorf("%v: Deltas(%v, %v) is %v, %v; want %v", name, a, b, got, ok, want)
	}
}

// refuseDeltas requires that there are no differences of two lists.
func refuseDeltas(t *testing.T, name any, a, b []api.Table) {
	t.Helper()
	got, ok := Deltas(a, b)
	if ok || len(got) != 0 {
		t.Errorf("%v: Deltas(%v, %v) is %v, %v; want none", name, a, b, got, ok)
	}
}

// P9.4: the differences that are not empty, in the order of the tables.
func TestDeltas(t *testing.T) {
	first, second, third := named("items", 2), named("orders", 4, lines(1, 2)...), named("stock", 12, row(2, 1, 0), row(7, 3, 30), row(11, 9, 9))
	one, two, three := api.Delta{Table: "items", Deleted: []api.Row{row(1, 5, 50)}}, api.Delta{Table: "orders", Inserted: lines(1, 2)}, api.Delta{
		Table: "stock", Inserted: []api.Row{row(11, 9, 9)}, Deleted: []api.Row{row(4, 2, 20)}, Updated: []api.Pair{{ID: 2, Old: cells(1, 10), New: cells(1, 0)}},
	}
	checkDeltas(t, "no tables", nil, nil)
	checkDeltas(t, "the same", shop(), shop())
	checkDeltas(t, "all", shop(), []api.Table{first, second, third}, one, two, three)
	checkDeltas(t, "first", shop(), []api.Table{first, orders(), stock()}, one)
	checkDeltas(t, "second", shop(), []api.Table{items(), second, stock()}, two)
	checkDeltas(t, "first and third", shop(), []api.Table{first, orders(), third}, one, three)
	// A greater Next alone is no difference.
	checkDeltas(t, "Next", shop(), []api.Table{named("items", 1<<31, items().Rows...), named("orders", 5), third}, three)
	full := tables(api.MaxTables)
	checkDeltas(t, "all tables", full, full)
}

// P9.4: there are no differences of lists that are not stores of the same tables, nor if a table has none.
func TestDeltasInvalid(t *testing.T) {
	for i, x := range invalid("orders") {
		broken := []api.Table{items(), x, stock()}
		refuseDeltas(t, i, broken, broken)
		refuseDeltas(t, i, broken, shop())
		refuseDeltas(t, i, shop(), broken)
	}
	reversed := []api.Table{stock(), orders(), items()}
	refuseDeltas(t, "descending", reversed, reversed)
	refuseDeltas(t, "descending", shop(), reversed)
	refuseDeltas(t, "twice", []api.Table{stock(), stock()}, []api.Table{stock(), stock()})
	refuseDeltas(t, "too many", tables(api.MaxTables+1), tables(api.MaxTables+1))
	refuseDeltas(t, "zero", []api.Table{{}}, []api.Table{{}})

	for i := range shop() {
		fewer := slices.Delete(shop(), i, i+1)
		refuseDeltas(t, i, shop(), fewer)
		refuseDeltas(t, i, fewer, shop())
		renamed := shop()
		renamed[i].Schema.Name += "x"
		refuseDeltas(t, i, shop(), renamed)
		refuseDeltas(t, i, renamed, shop())
		other := shop()
		other[i].Schema.Columns = []api.Column{id, {Name: "m", Type: api.Int}}
		refuseDeltas(t, i, shop(), other)
		later := shop()
		later[i].Next++
		refuseDeltas(t, i, later, shop())
	}
	refuseDeltas(t, "some tables", shop(), nil)
	refuseDeltas(t, "some tables", nil, shop())
	again := with(9, row(2, 1, 10), row(3, 5, 5))
	refuseDeltas(t, "a number given again", shop(), again)
	again[0] = named("items", 2)
	refuseDeltas(t, "a number given again, behind a difference", shop(), again)
}

// P9.4: the differences lead from the one store to the other.
func TestManyDeltas(t *testing.T) {
	draw := noise(94)
	for range 2000 {
		a, b := shop(), shop()
		key := int64(1000)
		for i := range b {
			if draw.below(2) == 0 {
				b[i] = someStep(&draw, b[i], &key)
			}
		}
		var want []api.Delta
		for i := range a {
			if d, _ := delta.Between(a[i], b[i]); !delta.Empty(d) {
				want = append(want, d)
			}
		}
		checkDeltas(t, "many", a, b, want...)
	}
}

// fill overwrites a list up to its capacity.
func fill[E any](l []E, with E) {
	for i := range l[:cap(l)] {
		l[:cap(l)][i] = with
	}
}

// fillRows, fillTables, fillLog and fillDeltas overwrite all lists.
func fillRows(l []api.Row) {
	for _, r := range l {
		fill(r.Values, text("overwritten"))
	}
	fill(l, row(99, 99))
}

func fillTables(l []api.Table) {
	for _, x := range l {
		fillRows(x.Rows)
		fill(x.Schema.Columns, note)
	}
	fill(l, api.Table{})
}

func fillLog(l []api.Undo) {
	for _, e := range l {
		fill(e.Inserted, 99)
		fillRows(e.Deleted)
		fillRows(e.Updated)
	}
	fill(l, api.Undo{})
}

func fillDeltas(l []api.Delta) {
	for _, d := range l {
		fillRows(d.Inserted)
		fillRows(d.Deleted)
		for _, p := range d.Updated {
			fill(p.Old, text("overwritten"))
			fill(p.New, text("overwritten"))
		}
		fill(d.Updated, api.Pair{})
	}
	fill(l, api.Delta{})
}

// spare returns a list with the same elements and one more in its spare capacity.
func spare[E any](l []E, more E) []E {
	return append(slices.Clip(slices.Clone(l)), more)[:len(l)]
}

// roomyRows, roomyTables and roomyLog return copies with something in the spare capacity of all lists.
func roomyRows(l []api.Row) []api.Row {
	l = slices.Clone(l)
	for i, r := range l {
		l[i].Values = spare(r.Values, text("spare"))
	}
	return spare(l, row(8, 8, 8))
}

func roomyTables(l []api.Table) []api.Table {
	l = slices.Clone(l)
	for i, x := range l {
		l[i].Schema.Columns, l[i].Rows = spare(x.Schema.Columns, note), roomyRows(x.Rows)
	}
	return spare(l, items())
}

func roomyLog(l []api.Undo) []api.Undo {
	l = slices.Clone(l)
	for i, e := range l {
		l[i].Inserted, l[i].Deleted, l[i].Updated = spare(e.Inserted, 8), roomyRows(e.Deleted), roomyRows(e.Updated)
	}
	return spare(l, entry(8, nil, nil, nil))
}

// wholeRows, wholeTables and wholeLog return all lists up to their capacities.
func wholeRows(l []api.Row) []api.Row {
	l = slices.Clone(l[:cap(l)])
	for i, r := range l {
		l[i].Values = r.Values[:cap(r.Values)]
	}
	return l
}

func wholeTables(l []api.Table) []api.Table {
	l = slices.Clone(l[:cap(l)])
	for i, x := range l {
		l[i].Schema.Columns, l[i].Rows = x.Schema.Columns[:cap(x.Schema.Columns)], wholeRows(x.Rows)
	}
	return l
}

func wholeLog(l []api.Undo) []api.Undo {
	l = slices.Clone(l[:cap(l)])
	for i, e := range l {
		l[i].Inserted, l[i].Deleted, l[i].Updated = e.Inserted[:cap(e.Inserted)], wholeRows(e.Deleted), wholeRows(e.Updated)
	}
	return l
}

// later is a later state of shop; history is a log that leads back from it, with three steps of stock.
func later() []api.Table {
	return with(11, row(2, 1, 11), row(7, 3, 30), row(10, 5, 50))
}

func history() []api.Undo {
	return []api.Undo{
		entry(9, []int{9}, nil, []api.Row{row(2, 1, 10)}),
		entry(10, []int{10}, []api.Row{row(4, 2, 20), row(9, 4, 40)}, nil),
		entry(11, nil, nil, []api.Row{row(7, 3, 30)}),
	}
}

// arguments are lists for all functions, with spare capacity.
type arguments struct {
	before, after []api.Table
	log           []api.Undo
}

func roomy() arguments {
	return arguments{roomyTables(shop()), roomyTables(later()), roomyLog(history())}
}

// same reports whether two arguments are the same up to all capacities.
func (a arguments) same(b arguments) bool {
	return equalStore(wholeTables(a.before), wholeTables(b.before)) && equalStore(wholeTables(a.after), wholeTables(b.after)) && equalLog(wholeLog(a.log), wholeLog(b.log))
}

// fill overwrites all arguments.
func (a arguments) fill() {
	fillTables(a.before)
	fillTables(a.after)
	fillLog(a.log)
}

// results are what the functions return for arguments.
type results struct {
	put, back      []api.Table
	recorded, rest []api.Undo
	bags           [][][]api.Value
	deltas         []api.Delta
}

func resultsOf(a arguments) results {
	var r results
	r.put, _ = Put(a.before, a.after[2])
	r.recorded, _ = Record(a.log, a.before[2], a.after[2])
	r.back, r.rest, _ = Rollback(a.after, a.log, 1)
	r.bags = Bags(a.before)
	r.deltas, _ = Deltas(a.before, a.after)
	return r
}

// check compares results with what is wanted.
func (r results) check(t *testing.T) {
	t.Helper()
	step := api.Delta{Table: "stock", Inserted: []api.Row{row(10, 5, 50)}, Deleted: []api.Row{row(4, 2, 20)}, Updated: []api.Pair{{ID: 2, Old: cells(1, 10), New: cells(1, 11)}}}
	if !equalStore(r.put, later()) {
		t.Errorf("Put is %v", r.put)
	}
	if want := append(history(), entry(9, []int{10}, []api.Row{row(4, 2, 20)}, []api.Row{row(2, 1, 10)})); !equalLog(r.recorded, want) {
		t.Errorf("Record is %v", r.recorded)
	}
	if want := with(10, row(2, 1, 11), row(4, 2, 20), row(7, 3, 30), row(9, 4, 40)); !equalStore(r.back, want) || !equalLog(r.rest, history()[:1]) {
		t.Errorf("Rollback is %v, %v", r.back, r.rest)
	}
	if want := [][][]api.Value{{cells(5, 50)}, nil, {cells(1, 10), cells(2, 20), cells(3, 30)}}; fmt.Sprint(r.bags) != fmt.Sprint(want) {
		t.Errorf("Bags is %v", r.bags)
	}
	if !slices.EqualFunc(r.deltas, []api.Delta{step}, equalDelta) {
		t.Errorf("Deltas is %v", r.deltas)
	}
}

// fill overwrites all results.
func (r results) fill() {
	fillTables(r.put)
	fillTables(r.back)
	fillLog(r.recorded)
	fillLog(r.rest)
	for _, bag := range r.bags {
		for _, values := range bag {
			fill(values, text("overwritten"))
		}
		fill(bag, nil)
	}
	fill(r.bags, nil)
	fillDeltas(r.deltas)
}

// R2: arguments stay as they are, with all spare capacity, also when the results are overwritten.
func TestArgumentsStay(t *testing.T) {
	a := roomy()
	Valid(a.before)
	Find(a.before, "stock")
	r := resultsOf(a)
	r.check(t)
	r.fill()
	if !a.same(roomy()) {
		t.Errorf("the arguments are %v", a)
	}
}

// R2: results stay as they are when the arguments are overwritten.
func TestArgumentsAreNotKept(t *testing.T) {
	a := roomy()
	r := resultsOf(a)
	a.fill()
	r.check(t)
}

// R2: lists of a result share no memory with each other, though they are the same memory in the arguments.
func TestListsAreNew(t *testing.T) {
	columns, shared, numbers := []api.Column{note}, cells(5), []int{8}
	one := func(name string) api.Table {
		return api.Table{Schema: api.Schema{Name: name, Columns: columns}, Next: 9, Rows: []api.Row{{ID: 1, Values: shared}, {ID: 2, Values: shared}}}
	}
	l := []api.Table{one("a"), one("b")}
	rows := []api.Row{{ID: 3, Values: shared}, {ID: 4, Values: shared}}
	back := []api.Row{{ID: 1, Values: shared}, {ID: 2, Values: shared}}
	log := []api.Undo{{Inserted: numbers, Deleted: rows, Updated: rows}, {Inserted: numbers, Deleted: rows}, {Table: "a", Next: 9, Deleted: rows, Updated: back}, {Table: "b", Next: 9, Deleted: rows}}
	var lists [][]api.Value
	collect := func(l []api.Row) {
		for _, r := range l {
			lists = append(lists, r.Values)
		}
	}
	put, ok := Put(l, one("c"))
	got, rest, done := Rollback(l, log, 2)
	if !ok || !done {
		t.Fatal("there is no result")
	}
	for _, x := range slices.Concat(put, got) {
		collect(x.Rows)
	}
	for _, e := range rest {
		collect(e.Deleted)
		collect(e.Updated)
	}
	for _, bag := range Bags(l) {
		lists = append(lists, bag...)
	}
	// Each list is overwritten with its index: none may lose it afterwards.
	for i, values := range lists {
		fill(values, number(int64(i)))
	}
	for i, values := range lists {
		if values[0].Int != int64(i) {
			t.Errorf("the list %d shares memory with the list %d", i, values[0].Int)
		}
	}
	fill(rest[0].Inserted, 99)
	fill(put[0].Schema.Columns, id)
	fill(got[0].Schema.Columns, id)
	if rest[1].Inserted[0] != 8 || put[1].Schema.Columns[0] != note || got[1].Schema.Columns[0] != note || columns[0] != note || numbers[0] != 8 {
		t.Error("numbers or columns share memory")
	}
}

package keys

import (
	"math"
	"slices"
	"strings"
	"testing"

	"triggerstore/api"
	"triggerstore/table"
)

func number(n int64) api.Value { return api.Value{Kind: api.Int, Int: n} }

func text(s string) api.Value { return api.Value{Kind: api.Text, Text: s} }

// cells returns a row of numbers.
func cells(numbers ...int64) []api.Value {
	var l []api.Value
	for _, n := range numbers {
		l = append(l, number(n))
	}
	return l
}

// row returns a row of numbers with its number.
func row(id int, numbers ...int64) api.Row {
	return api.Row{ID: id, Values: cells(numbers...)}
}

// pair returns the update of a row, with its number.
func pair(id int, before, after []api.Value) api.Pair {
	return api.Pair{ID: id, Old: before, New: after}
}

var (
	id    = api.Column{Name: "id", Type: api.Int, NotNull: true, Key: true}
	count = api.Column{Name: "n", Type: api.Int, NotNull: true}
	note  = api.Column{Name: "note", Type: api.Text}
)

// schema returns a schema with these columns.
func schema(columns ...api.Column) api.Schema {
	return api.Schema{Name: "t", Columns: columns}
}

// with returns a table whose second column is the key.
func with(next int, rows ...api.Row) api.Table {
	return api.Table{Schema: schema(count, id), Next: next, Rows: rows}
}

// stock is a table with the rows 2, 4 and 7, whose keys are 1, 2 and 3.
func stock() api.Table {
	return with(9, row(2, 10, 1), row(4, 20, 2), row(7, 30, 3))
}

// The rows of stock as an update names them.
func first() []api.Value  { return cells(10, 1) }
func second() []api.Value { return cells(20, 2) }
func third() []api.Value  { return cells(30, 3) }

// inserts, deletes and updates return changes of one kind.
func inserts(rows ...[]api.Value) api.Change { return api.Change{Inserted: rows} }
func deletes(ids ...int) api.Change          { return api.Change{Deleted: ids} }
func updates(pairs ...api.Pair) api.Change   { return api.Change{Updated: pairs} }

// lines returns so many rows with the numbers and the keys from 1 on.
func lines(amount int) []api.Row {
	var l []api.Row
	for i := range amount {
		l = append(l, row(i+1, 7, int64(i+1)))
	}
	return l
}

// sameTable reports whether two tables are equal; nil and empty lists are equal.
func sameTable(a, b api.Table) bool {
	sameRow := func(r, s api.Row) bool { return r.ID == s.ID && slices.Equal(r.Values, s.Values) }
	return a.Schema.Name == b.Schema.Name && slices.Equal(a.Schema.Columns, b.Schema.Columns) && a.Next == b.Next && slices.EqualFunc(a.Rows, b.Rows, sameRow)
}

// check applies c to t and compares the result; with an error, the table must be zero.
func check(t *testing.T, name any, x api.Table, c api.Change, want api.Table, e api.Errno) {
	t.Helper()
	got, code := Apply(x, c)
	if code != e || !sameTable(got, want) {
		t.Errorf("%v: Apply(%v, %v) is %v, %d; want %v, %d", name, x, c, got, code, want, e)
	}
	if code == api.OK && !table.Valid(got) {
		t.Errorf("%v: the table %v is not valid", name, got)
	}
}

// form is a change of stock, and whether it is valid.
type form struct {
	c    api.Change
	want bool
}

// checkForms compares Valid with what is said of the changes, and Apply as far as it refuses those that are not valid.
func checkForms(t *testing.T, l []form) {
	t.Helper()
	for i, f := range l {
		if got := Valid(stock(), f.c); got != f.want {
			t.Errorf("%d: Valid(%v) is %v", i, f.c, got)
		}
		if !f.want {
			check(t, i, stock(), f.c, api.Table{}, api.ErrInvalid)
		}
	}
}

// P7.1: the numbers in Deleted are ascending and those of rows; P7.2: Apply refuses changes that are not valid.
func TestValidDeleted(t *testing.T) {
	checkForms(t, []form{
		{deletes(2), true},
		{deletes(4), true},
		{deletes(7), true},
		{deletes(2, 7), true},
		{deletes(2, 4, 7), true},
		{deletes(3), false},
		{deletes(2, 3), false},
		{deletes(3, 4), false},
		{deletes(2, 4, 7, 8), false},
		{deletes(8), false},
		{deletes(9), false},
		{deletes(1), false},
		{deletes(0), false},
		{deletes(-2), false},
		{deletes(math.MinInt), false},
		{deletes(math.MaxInt), false},
		{deletes(1<<32 + 2), false},
		{deletes(2, 2), false},
		{deletes(7, 7), false},
		{deletes(2, 4, 4, 7), false},
		{deletes(4, 2), false},
		{deletes(2, 7, 4), false},
		{deletes(7, 2, 4), false},
	})
}

// P7.1, P7.2: the same for the numbers in Updated, none of which is in Deleted.
func TestValidUpdated(t *testing.T) {
	fine := cells(5, 5)
	checkForms(t, []form{
		{updates(pair(2, first(), fine)), true},
		{updates(pair(4, second(), fine)), true},
		{updates(pair(7, third(), fine)), true},
		{updates(pair(2, first(), fine), pair(7, third(), fine)), true},
		{updates(pair(2, first(), fine), pair(4, second(), fine), pair(7, third(), fine)), true},
		{updates(pair(3, first(), fine)), false},
		{updates(pair(1, first(), fine)), false},
		{updates(pair(0, first(), fine)), false},
		{updates(pair(-2, first(), fine)), false},
		{updates(pair(9, third(), fine)), false},
		{updates(pair(2, first(), fine), pair(3, second(), fine)), false},
		{updates(pair(7, third(), fine), pair(8, third(), fine)), false},
		{updates(pair(3, nil, fine)), false},
		{updates(pair(2, first(), fine), pair(2, first(), fine)), false},
		{updates(pair(2, first(), fine), pair(2, fine, fine)), false},
		{updates(pair(4, second(), fine), pair(2, first(), fine)), false},
		{updates(pair(2, first(), fine), pair(7, third(), fine), pair(4, second(), fine)), false},
		// Numbers in both.
		{api.Change{Deleted: []int{2}, Updated: []api.Pair{pair(4, second(), fine)}}, true},
		{api.Change{Deleted: []int{4}, Updated: []api.Pair{pair(2, first(), fine), pair(7, third(), fine)}}, true},
		{api.Change{Deleted: []int{2, 7}, Updated: []api.Pair{pair(4, second(), fine)}}, true},
		{api.Change{Deleted: []int{2}, Updated: []api.Pair{pair(2, first(), fine)}}, false},
		{api.Change{Deleted: []int{2, 7}, Updated: []api.Pair{pair(7, third(), fine)}}, false},
		{api.Change{Deleted: []int{7}, Updated: []api.Pair{pair(2, first(), fine), pair(7, third(), fine)}}, false},
		{api.Change{Deleted: []int{2, 4, 7}, Updated: []api.Pair{pair(4, second(), fine)}}, false},
	})
}

// P7.1, P7.2: the Old of each update is the row itself.
func TestValidOld(t *testing.T) {
	fine := cells(5, 5)
	checkForms(t, []form{
		{updates(pair(2, cells(10, 2), fine)), false},
		{updates(pair(2, cells(11, 1), fine)), false},
		{updates(pair(2, second(), fine)), false},
		{updates(pair(2, fine, first())), false},
		{updates(pair(2, cells(1, 10), fine)), false},
		{updates(pair(2, nil, fine)), false},
		{updates(pair(2, cells(10), fine)), false},
		{updates(pair(2, cells(10, 1, 1), fine)), false},
		{updates(pair(2, []api.Value{number(10), text("1")}, fine)), false},
		{updates(pair(2, []api.Value{number(10), {Kind: api.Bool, Int: 1}}, fine)), false},
		{updates(pair(2, []api.Value{number(10), {Kind: api.Int, Int: 1, Text: "a"}}, fine)), false},
		{updates(pair(2, first(), fine), pair(7, second(), fine)), false},
	})
}

// P7.1, P7.2: new rows have a value for each column, and may be anything else.
func TestValidNew(t *testing.T) {
	fine := cells(5, 5)
	checkForms(t, []form{
		// New may also be the row itself, or a row that does not fit.
		{updates(pair(2, first(), first())), true},
		{updates(pair(2, first(), []api.Value{{}, {}})), true},
		{updates(pair(2, first(), []api.Value{{Kind: 9}, text("\n")})), true},
		{updates(pair(2, first(), nil)), false},
		{updates(pair(2, first(), cells(5))), false},
		{updates(pair(2, first(), cells(5, 5, 5))), false},
		{updates(pair(2, first(), fine), pair(4, second(), cells(5))), false},
		{updates(pair(2, first(), cells(5)), pair(4, second(), fine)), false},
		// The same for rows of Inserted, which have no numbers and no order.
		{inserts(fine), true},
		{inserts(fine, fine, cells(1, 1)), true},
		{inserts([]api.Value{{}, {}}), true},
		{inserts([]api.Value{{Kind: 9}, text("\n")}), true},
		{inserts(nil), false},
		{inserts([]api.Value{}), false},
		{inserts(cells(5)), false},
		{inserts(cells(5, 5, 5)), false},
		{inserts(fine, cells(5)), false},
		{inserts(cells(5), fine), false},
		{inserts(fine, cells(5, 5, 5), fine), false},
		// Too many rows and keys that are not different are no matter of the form.
		{inserts(slices.Repeat([][]api.Value{fine}, api.MaxRows+1)...), true},
		{inserts(first()), true},
		{updates(pair(2, first(), third())), true},
	})
}

// P7.1, P7.2: all three lists, where none or one of them is wrong.
func TestValidLists(t *testing.T) {
	fine := cells(5, 5)
	checkForms(t, []form{
		{api.Change{}, true},
		{api.Change{Inserted: [][]api.Value{}, Deleted: []int{}, Updated: []api.Pair{}}, true},
		{api.Change{Inserted: [][]api.Value{fine}, Deleted: []int{2}, Updated: []api.Pair{pair(4, second(), fine)}}, true},
		{api.Change{Inserted: [][]api.Value{cells(5)}, Deleted: []int{2}, Updated: []api.Pair{pair(4, second(), fine)}}, false},
		{api.Change{Inserted: [][]api.Value{fine}, Deleted: []int{1}, Updated: []api.Pair{pair(4, second(), fine)}}, false},
		{api.Change{Inserted: [][]api.Value{fine}, Deleted: []int{2}, Updated: []api.Pair{pair(4, first(), fine)}}, false},
	})
}

// P7.1: nothing is valid for a table that is not.
func TestInvalidTable(t *testing.T) {
	for i, x := range []api.Table{
		{},
		{Next: 1},
		{Schema: stock().Schema},
		{Schema: schema(), Next: 1},
		{Schema: schema(id, id), Next: 1},
		{Schema: schema(count, count), Next: 1},
		{Schema: stock().Schema, Next: 1<<31 + 1},
		{Schema: stock().Schema, Next: math.MinInt},
		with(7, stock().Rows...),
		with(9, row(4, 20, 2), row(2, 10, 1)),
		with(9, row(2, 20, 2), row(2, 10, 1)),
		with(9, row(0, 10, 1)),
		with(9, row(2, 10, 1), row(4, 20, 1)),
		with(9, row(2, 10)),
		with(9, row(2)),
		with(9, api.Row{ID: 2, Values: []api.Value{{}, {}}}),
		with(9, api.Row{ID: 2, Values: []api.Value{text("a"), number(1)}}),
		with(9, api.Row{ID: 2, Values: []api.Value{{Kind: 9}, number(1)}}),
		with(900, lines(api.MaxRows+1)...),
	} {
		changes := []api.Change{{}, inserts(cells(5, 5)), deletes(2)}
		if len(x.Rows) > 0 {
			changes = append(changes, updates(pair(x.Rows[0].ID, x.Rows[0].Values, cells(5, 5))))
		}
		for _, c := range changes {
			if Valid(x, c) {
				t.Errorf("%d: Valid(%v, %v) is true", i, x, c)
			}
			check(t, i, x, c, api.Table{}, api.ErrInvalid)
		}
	}
	// A change that would make the table valid does not make it valid before.
	twice := with(9, row(2, 10, 1), row(4, 20, 1))
	check(t, "twice", twice, deletes(4), api.Table{}, api.ErrInvalid)
	check(t, "full", with(900, lines(api.MaxRows+1)...), deletes(1), api.Table{}, api.ErrInvalid)
}

// P7.1, P7.2: a table without a key and with nulls, and one without rows.
func TestOtherTables(t *testing.T) {
	null := api.Value{}
	plain := func(next int, rows ...api.Row) api.Table {
		return api.Table{Schema: schema(note), Next: next, Rows: rows}
	}
	texts := plain(3, api.Row{ID: 1, Values: []api.Value{null}}, api.Row{ID: 2, Values: []api.Value{text("a")}})
	check(t, "null", texts, updates(pair(1, []api.Value{null}, []api.Value{text("a")})), plain(3, api.Row{ID: 1, Values: []api.Value{text("a")}}, texts.Rows[1]), api.OK)
	check(t, "empty text", texts, updates(pair(1, []api.Value{text("")}, []api.Value{text("a")})), api.Table{}, api.ErrInvalid)
	check(t, "same text", texts, updates(pair(2, []api.Value{text(strings.Clone("a"))}, []api.Value{null})), plain(3, texts.Rows[0], api.Row{ID: 2, Values: []api.Value{null}}), api.OK)
	check(t, "equal rows", texts, inserts([]api.Value{null}, []api.Value{null}), plain(5, texts.Rows[0], texts.Rows[1], api.Row{ID: 3, Values: []api.Value{null}}, api.Row{ID: 4, Values: []api.Value{null}}), api.OK)

	check(t, "nothing", with(1), api.Change{}, with(1), api.OK)
	check(t, "first", with(1), inserts(cells(9, 8), cells(7, 6)), with(3, row(1, 9, 8), row(2, 7, 6)), api.OK)
	check(t, "no row", with(1), deletes(1), api.Table{}, api.ErrInvalid)
	check(t, "no row to update", with(1), updates(pair(1, cells(9, 8), cells(9, 8))), api.Table{}, api.ErrInvalid)
}

// P7.2: the rows, their order and numbers, and Next.
func TestApply(t *testing.T) {
	for i, c := range []struct {
		c    api.Change
		want api.Table
	}{
		{api.Change{}, stock()},
		{inserts(cells(40, 4)), with(10, row(2, 10, 1), row(4, 20, 2), row(7, 30, 3), row(9, 40, 4))},
		{inserts(cells(60, 6), cells(0, 0), cells(50, 5)), with(12, row(2, 10, 1), row(4, 20, 2), row(7, 30, 3), row(9, 60, 6), row(10, 0, 0), row(11, 50, 5))},
		{deletes(2), with(9, row(4, 20, 2), row(7, 30, 3))},
		{deletes(4), with(9, row(2, 10, 1), row(7, 30, 3))},
		{deletes(7), with(9, row(2, 10, 1), row(4, 20, 2))},
		{deletes(2, 4, 7), with(9)},
		{updates(pair(4, second(), cells(21, 2))), with(9, row(2, 10, 1), row(4, 21, 2), row(7, 30, 3))},
		{updates(pair(4, second(), second())), stock()},
		{updates(pair(2, first(), cells(10, 9)), pair(7, third(), cells(31, 0))), with(9, row(2, 10, 9), row(4, 20, 2), row(7, 31, 0))},
		{api.Change{Inserted: [][]api.Value{cells(40, 4)}, Deleted: []int{2, 4, 7}}, with(10, row(9, 40, 4))},
		{api.Change{Inserted: [][]api.Value{cells(40, 4), cells(50, 5)}, Deleted: []int{4}, Updated: []api.Pair{pair(2, first(), cells(11, 1)), pair(7, third(), cells(33, 9))}}, with(11, row(2, 11, 1), row(7, 33, 9), row(9, 40, 4), row(10, 50, 5))},
		{api.Change{Deleted: []int{2, 7}, Updated: []api.Pair{pair(4, second(), cells(22, 2))}}, with(9, row(4, 22, 2))},
	} {
		check(t, i, stock(), c.c, c.want, api.OK)
	}
}

// P7.2: a row that does not fit is refused with the error of tuple.Fits, first those of Updated, then those of Inserted, and ahead of limits and keys.
func TestFirstError(t *testing.T) {
	null, wrong, invalid := api.Value{}, text("a"), api.Value{Kind: 9}
	fine := cells(5, 5)
	nulls, wrongs, invalids := []api.Value{null, number(5)}, []api.Value{wrong, number(5)}, []api.Value{invalid, number(5)}
	many := slices.Repeat([][]api.Value{first()}, api.MaxRows)
	for i, c := range []struct {
		c    api.Change
		want api.Errno
	}{
		{inserts(nulls), api.ErrNull},
		{inserts(wrongs), api.ErrType},
		{inserts(invalids), api.ErrInvalid},
		{updates(pair(2, first(), nulls)), api.ErrNull},
		{updates(pair(2, first(), wrongs)), api.ErrType},
		{updates(pair(2, first(), invalids)), api.ErrInvalid},
		// Within a row, the columns decide; then the rows in order.
		{inserts([]api.Value{null, wrong}), api.ErrNull},
		{inserts([]api.Value{wrong, invalid}), api.ErrType},
		{inserts([]api.Value{number(5), null}, wrongs), api.ErrNull},
		{inserts(fine, wrongs, nulls), api.ErrType},
		{inserts(fine, nulls, invalids), api.ErrNull},
		{inserts(invalids, nulls), api.ErrInvalid},
		{updates(pair(2, first(), wrongs), pair(4, second(), nulls)), api.ErrType},
		{updates(pair(2, first(), nulls), pair(4, second(), invalids)), api.ErrNull},
		{updates(pair(2, first(), fine), pair(4, second(), invalids), pair(7, third(), nulls)), api.ErrInvalid},
		// Updated comes before Inserted.
		{api.Change{Inserted: [][]api.Value{nulls}, Updated: []api.Pair{pair(2, first(), wrongs)}}, api.ErrType},
		{api.Change{Inserted: [][]api.Value{wrongs}, Updated: []api.Pair{pair(2, first(), fine), pair(7, third(), nulls)}}, api.ErrNull},
		{api.Change{Inserted: [][]api.Value{invalids}, Updated: []api.Pair{pair(7, third(), nulls)}}, api.ErrNull},
		{api.Change{Inserted: [][]api.Value{nulls}, Updated: []api.Pair{pair(7, third(), fine)}}, api.ErrNull},
		// The form of the change comes before.
		{inserts(nulls, cells(5)), api.ErrInvalid},
		{api.Change{Inserted: [][]api.Value{nulls}, Deleted: []int{3}}, api.ErrInvalid},
		{api.Change{Inserted: [][]api.Value{cells(5)}, Updated: []api.Pair{pair(2, first(), nulls)}}, api.ErrInvalid},
		{updates(pair(2, first(), nulls), pair(4, first(), fine)), api.ErrInvalid},
		// Limits and keys come behind, and limits before keys.
		{inserts(append(slices.Clone(many), nulls)...), api.ErrNull},
		{inserts(append(slices.Clone(many), wrongs)...), api.ErrType},
		{api.Change{Inserted: many, Updated: []api.Pair{pair(2, first(), nulls)}}, api.ErrNull},
		{inserts(many...), api.ErrLimit},
		{inserts(first(), nulls), api.ErrNull},
		{inserts(first(), wrongs), api.ErrType},
		{api.Change{Inserted: [][]api.Value{nulls}, Updated: []api.Pair{pair(2, first(), third())}}, api.ErrNull},
		{inserts(first()), api.ErrKey},
	} {
		check(t, i, stock(), c.c, api.Table{}, c.want)
	}
}

// P7.2: MaxRows counts the rows of the result.
func TestMaxRows(t *testing.T) {
	full := with(api.MaxRows+1, lines(api.MaxRows)...)
	behind := func(rows []api.Row, more ...api.Row) []api.Row { return append(slices.Clone(rows), more...) }
	fresh := func(amount int) [][]api.Value {
		var l [][]api.Value
		for i := range amount {
			l = append(l, cells(8, int64(1000+i)))
		}
		return l
	}
	check(t, "as it is", full, api.Change{}, full, api.OK)
	check(t, "one too many", full, inserts(cells(8, 1000)), api.Table{}, api.ErrLimit)
	check(t, "one too many with a key that is there", full, inserts(cells(8, 1)), api.Table{}, api.ErrLimit)
	check(t, "in place of one", full, api.Change{Inserted: fresh(1), Deleted: []int{1}}, with(api.MaxRows+2, behind(full.Rows[1:], row(api.MaxRows+1, 8, 1000))...), api.OK)
	check(t, "two in place of one", full, api.Change{Inserted: fresh(2), Deleted: []int{1}}, api.Table{}, api.ErrLimit)
	check(t, "an update makes no room", full, api.Change{Inserted: fresh(1), Updated: []api.Pair{pair(1, cells(7, 1), cells(7, 1))}}, api.Table{}, api.ErrLimit)

	nearly := with(api.MaxRows, lines(api.MaxRows-1)...)
	check(t, "the last one", nearly, inserts(cells(8, 1000)), with(api.MaxRows+1, behind(nearly.Rows, row(api.MaxRows, 8, 1000))...), api.OK)
	check(t, "one more", nearly, inserts(fresh(2)...), api.Table{}, api.ErrLimit)
	check(t, "the same key twice", nearly, inserts(cells(8, 1000), cells(8, 1000)), api.Table{}, api.ErrLimit)

	var all []int
	for _, r := range full.Rows {
		all = append(all, r.ID)
	}
	got, e := Apply(full, api.Change{Inserted: fresh(api.MaxRows), Deleted: all})
	if e != api.OK || len(got.Rows) != api.MaxRows || got.Rows[0].ID != api.MaxRows+1 || got.Next != 2*api.MaxRows+1 || !table.Valid(got) {
		t.Errorf("a full table in place of another is %v, %d", got, e)
	}
	check(t, "one more than all", full, api.Change{Inserted: fresh(api.MaxRows + 1), Deleted: all}, api.Table{}, api.ErrLimit)
	check(t, "far more", with(1), inserts(fresh(100000)...), api.Table{}, api.ErrLimit)
}

// P7.2: Next may become 2^31, the row before it having the last number, but no more.
func TestLastNumber(t *testing.T) {
	const end = 1 << 31
	late := func(next int, rows ...api.Row) api.Table {
		return with(next, append(stock().Rows, rows...)...)
	}
	one, two := inserts(cells(40, 4)), inserts(cells(40, 4), cells(50, 5))
	check(t, "the last number", late(end-1), one, late(end, row(end-1, 40, 4)), api.OK)
	check(t, "the last two", late(end-2), two, late(end, row(end-2, 40, 4), row(end-1, 50, 5)), api.OK)
	check(t, "one too many", late(end-1), two, api.Table{}, api.ErrLimit)
	check(t, "no number left", late(end), one, api.Table{}, api.ErrLimit)
	check(t, "deleting gives no number back", late(end), api.Change{Inserted: one.Inserted, Deleted: []int{2, 7}}, api.Table{}, api.ErrLimit)
	check(t, "before the key", late(end), inserts(first()), api.Table{}, api.ErrLimit)
	check(t, "behind the values", late(end), inserts([]api.Value{{}, {}}), api.Table{}, api.ErrNull)
	check(t, "no new row", late(end), api.Change{}, late(end), api.OK)
	check(t, "changes without new rows", late(end), api.Change{Deleted: []int{2, 7}, Updated: []api.Pair{pair(4, second(), cells(20, 1))}}, with(end, row(4, 20, 1)), api.OK)
	check(t, "the last row again", late(end, row(end-1, 40, 4)), updates(pair(end-1, cells(40, 4), cells(41, 4))), late(end, row(end-1, 41, 4)), api.OK)
}

// P7.2: two rows of the result must not have the same key, wherever they come from.
func TestSameKey(t *testing.T) {
	for i, c := range []api.Change{
		inserts(cells(40, 1)),
		inserts(cells(40, 4), cells(40, 3)),
		inserts(cells(40, 4), cells(50, 4)),
		inserts(cells(40, 4), cells(50, 5), cells(40, 4)),
		updates(pair(2, first(), cells(10, 2))),
		updates(pair(7, third(), cells(10, 1))),
		updates(pair(2, first(), cells(10, 9)), pair(4, second(), cells(20, 9))),
		updates(pair(2, first(), cells(10, 2)), pair(4, second(), cells(20, 3))),
		{Inserted: [][]api.Value{cells(40, 9)}, Updated: []api.Pair{pair(4, second(), cells(20, 9))}},
		{Inserted: [][]api.Value{cells(40, 2)}, Updated: []api.Pair{pair(4, second(), cells(21, 2))}},
		{Inserted: [][]api.Value{cells(40, 2), cells(40, 2)}, Deleted: []int{4}},
		{Inserted: [][]api.Value{cells(40, 2)}, Deleted: []int{2, 7}},
		{Deleted: []int{2}, Updated: []api.Pair{pair(4, second(), cells(20, 3))}},
		{Deleted: []int{2}, Updated: []api.Pair{pair(4, second(), cells(20, 1)), pair(7, third(), cells(30, 1))}},
	} {
		check(t, i, stock(), c, api.Table{}, api.ErrKey)
	}
	// Without a key column, and in the other columns, values may be the same.
	plain := stock()
	plain.Schema = schema(count, api.Column{Name: "id", Type: api.Int, NotNull: true})
	want := api.Table{Schema: plain.Schema, Next: 10, Rows: []api.Row{row(2, 20, 2), row(4, 20, 2), row(7, 30, 3), row(9, 20, 2)}}
	check(t, "no key", plain, api.Change{Inserted: [][]api.Value{second()}, Updated: []api.Pair{pair(2, first(), second())}}, want, api.OK)
	check(t, "another column", stock(), inserts(cells(10, 4)), with(10, row(2, 10, 1), row(4, 20, 2), row(7, 30, 3), row(9, 10, 4)), api.OK)
}

// P7.3: only the result counts for the key.
func TestKeysMove(t *testing.T) {
	for i, c := range []struct {
		c    api.Change
		want api.Table
	}{
		// Two and three rows exchange their keys, and keys are passed on along the rows in both directions.
		{updates(pair(2, first(), cells(10, 2)), pair(4, second(), cells(20, 1))), with(9, row(2, 10, 2), row(4, 20, 1), row(7, 30, 3))},
		{updates(pair(2, first(), cells(10, 3)), pair(7, third(), cells(30, 1))), with(9, row(2, 10, 3), row(4, 20, 2), row(7, 30, 1))},
		{updates(pair(2, first(), cells(10, 2)), pair(4, second(), cells(20, 3)), pair(7, third(), cells(30, 1))), with(9, row(2, 10, 2), row(4, 20, 3), row(7, 30, 1))},
		{updates(pair(2, first(), cells(10, 2)), pair(4, second(), cells(20, 3)), pair(7, third(), cells(30, 4))), with(9, row(2, 10, 2), row(4, 20, 3), row(7, 30, 4))},
		{updates(pair(2, first(), cells(10, 0)), pair(4, second(), cells(20, 1)), pair(7, third(), cells(30, 2))), with(9, row(2, 10, 0), row(4, 20, 1), row(7, 30, 2))},
		{updates(pair(2, first(), second()), pair(4, second(), first())), with(9, row(2, 20, 2), row(4, 10, 1), row(7, 30, 3))},
		// A key is free as soon as its row is deleted or has another one.
		{api.Change{Inserted: [][]api.Value{cells(40, 1)}, Deleted: []int{2}}, with(10, row(4, 20, 2), row(7, 30, 3), row(9, 40, 1))},
		{api.Change{Inserted: [][]api.Value{third(), first(), second()}, Deleted: []int{2, 4, 7}}, with(12, row(9, 30, 3), row(10, 10, 1), row(11, 20, 2))},
		{api.Change{Inserted: [][]api.Value{cells(40, 1)}, Updated: []api.Pair{pair(2, first(), cells(10, 8))}}, with(10, row(2, 10, 8), row(4, 20, 2), row(7, 30, 3), row(9, 40, 1))},
		{api.Change{Deleted: []int{2}, Updated: []api.Pair{pair(7, third(), cells(30, 1))}}, with(9, row(4, 20, 2), row(7, 30, 1))},
		{api.Change{Deleted: []int{7}, Updated: []api.Pair{pair(2, first(), cells(10, 3))}}, with(9, row(2, 10, 3), row(4, 20, 2))},
		{api.Change{Inserted: [][]api.Value{cells(40, 1)}, Deleted: []int{4}, Updated: []api.Pair{pair(2, first(), cells(10, 2))}}, with(10, row(2, 10, 2), row(7, 30, 3), row(9, 40, 1))},
		{api.Change{Inserted: [][]api.Value{cells(40, 3)}, Deleted: []int{2}, Updated: []api.Pair{pair(4, second(), cells(20, 1)), pair(7, third(), cells(30, 2))}}, with(10, row(4, 20, 1), row(7, 30, 2), row(9, 40, 3))},
	} {
		check(t, i, stock(), c.c, c.want, api.OK)
	}
}

// noise gives numbers that look random and are the same in every run.
type noise uint32

func (n *noise) below(limit int) int {
	*n = *n*1664525 + 1013904223
	return int(*n>>8) % limit
}

// someValues returns a row of two small numbers, now and then with a value that does not fit or with a value too few or too many.
func someValues(draw *noise) []api.Value {
	l := cells(int64(draw.below(3)), int64(draw.below(7)))
	switch draw.below(60) {
	case 0:
		l = l[:1]
	case 1:
		l = append(l, number(1))
	case 2:
		l[draw.below(2)] = api.Value{}
	case 3:
		l[draw.below(2)] = text("a")
	case 4:
		l[draw.below(2)] = api.Value{Kind: 9}
	}
	return l
}

// someTable returns a table of up to five rows with different keys, seldom with two equal ones.
func someTable(draw *noise) api.Table {
	x := with(1 + draw.below(2))
	for k := range int64(draw.below(6)) {
		if draw.below(80) == 0 {
			k = 0
		}
		x.Rows = append(x.Rows, row(x.Next, int64(draw.below(3)), k))
		x.Next += 1 + draw.below(2)
	}
	switch draw.below(12) {
	case 0:
		x.Next = 1<<31 - draw.below(3)
	case 1:
		x.Schema = schema(count, api.Column{Name: "id", Type: api.Int, NotNull: true})
	}
	return x
}

// someChange returns a change of x, seldom one with a wrong number or a wrong old row.
func someChange(draw *noise, x api.Table) api.Change {
	var c api.Change
	for _, r := range x.Rows {
		number, old := r.ID, slices.Clone(r.Values)
		switch draw.below(60) {
		case 0:
			number = draw.below(9)
		case 1:
			old[draw.below(2)].Int++
		}
		kind := draw.below(4)
		if kind == 1 || draw.below(60) == 0 {
			c.Deleted = append(c.Deleted, number)
		}
		if kind == 2 || draw.below(60) == 0 {
			c.Updated = append(c.Updated, pair(number, old, someValues(draw)))
		}
	}
	for range draw.below(3) {
		c.Inserted = append(c.Inserted, someValues(draw))
	}
	return c
}

// agrees reports whether c is valid for x, which is: it looks for each number among the rows and compares neighbours.
func agrees(x api.Table, c api.Change) bool {
	rows := make(map[int][]api.Value)
	for _, r := range x.Rows {
		rows[r.ID] = r.Values
	}
	for i, n := range c.Deleted {
		if rows[n] == nil || i > 0 && n <= c.Deleted[i-1] {
			return false
		}
	}
	for i, p := range c.Updated {
		if rows[p.ID] == nil || i > 0 && p.ID <= c.Updated[i-1].ID || slices.Contains(c.Deleted, p.ID) {
			return false
		}
		if !slices.Equal(p.Old, rows[p.ID]) || len(p.New) != 2 {
			return false
		}
	}
	for _, r := range c.Inserted {
		if len(r) != 2 {
			return false
		}
	}
	return true
}

// fault returns the error of the first value that is not a number.
func fault(c api.Change) api.Errno {
	var rows [][]api.Value
	for _, p := range c.Updated {
		rows = append(rows, p.New)
	}
	for _, v := range slices.Concat(append(rows, c.Inserted...)...) {
		switch v.Kind {
		case api.Int:
		case api.Null:
			return api.ErrNull
		case api.Text:
			return api.ErrType
		default:
			return api.ErrInvalid
		}
	}
	return api.OK
}

// afterwards makes the valid change c step by step, on rows by number, and returns them in order with the first limit or key that is broken.
func afterwards(x api.Table, c api.Change) (api.Table, api.Errno) {
	rows := make(map[int][]api.Value)
	for _, r := range x.Rows {
		rows[r.ID] = r.Values
	}
	for _, n := range c.Deleted {
		delete(rows, n)
	}
	for _, p := range c.Updated {
		rows[p.ID] = p.New
	}
	after := api.Table{Schema: x.Schema, Next: x.Next + len(c.Inserted)}
	for i, r := range c.Inserted {
		rows[x.Next+i] = r
	}
	for n, r := range rows {
		after.Rows = append(after.Rows, api.Row{ID: n, Values: r})
	}
	slices.SortFunc(after.Rows, func(a, b api.Row) int { return a.ID - b.ID })
	if after.Next > 1<<31 {
		return api.Table{}, api.ErrLimit
	}
	for i, a := range after.Rows {
		for _, b := range after.Rows[:i] {
			if x.Schema.Columns[1].Key && a.Values[1] == b.Values[1] {
				return api.Table{}, api.ErrKey
			}
		}
	}
	return after, api.OK
}

// P7.1, P7.2, P7.3: both functions on many small tables, against changes that are made step by step.
func TestManyChanges(t *testing.T) {
	draw := noise(7)
	seen := make(map[api.Errno]int)
	for range 30000 {
		x := someTable(&draw)
		c := someChange(&draw, x)
		valid := table.Valid(x) && agrees(x, c)
		if Valid(x, c) != valid {
			t.Fatalf("Valid(%v, %v) is %v", x, c, !valid)
		}
		want, e := api.Table{}, api.ErrInvalid
		if valid {
			e = fault(c)
			if e == api.OK {
				want, e = afterwards(x, c)
			}
		}
		check(t, "many", x, c, want, e)
		if t.Failed() {
			return
		}
		seen[e]++
	}
	for _, e := range []api.Errno{api.OK, api.ErrInvalid, api.ErrNull, api.ErrType, api.ErrLimit, api.ErrKey} {
		if seen[e] < 100 {
			t.Errorf("only %d changes have the error %d", seen[e], e)
		}
	}
}

// fill overwrites a list up to its capacity.
func fill[E any](l []E, with E) {
	for i := range l[:cap(l)] {
		l[:cap(l)][i] = with
	}
}

// fillTable overwrites a table with all its lists.
func fillTable(x api.Table) {
	for _, r := range x.Rows {
		fill(r.Values, text("overwritten"))
	}
	fill(x.Rows, row(99, 99))
	fill(x.Schema.Columns, note)
}

// fillChange overwrites a change with all its lists.
func fillChange(c api.Change) {
	for _, r := range c.Inserted {
		fill(r, text("overwritten"))
	}
	for _, p := range c.Updated {
		fill(p.Old, text("overwritten"))
		fill(p.New, text("overwritten"))
	}
	fill(c.Inserted, cells(99))
	fill(c.Deleted, 99)
	fill(c.Updated, pair(99, nil, nil))
}

// spare returns a list with the same elements and one more in its spare capacity.
func spare[E any](l []E, more E) []E {
	return append(slices.Clip(l), more)[:len(l)]
}

// roomy returns a table and a change whose lists all have spare capacity with something in it.
func roomy() (api.Table, api.Change) {
	values := func(numbers ...int64) []api.Value { return spare(cells(numbers...), text("spare")) }
	x := stock()
	x.Schema.Columns = spare(x.Schema.Columns, note)
	for i, r := range x.Rows {
		x.Rows[i].Values = spare(r.Values, text("spare"))
	}
	x.Rows = spare(x.Rows, row(8, 8, 8))
	c := api.Change{
		Inserted: spare([][]api.Value{values(40, 1), values(50, 5)}, cells(6, 6)),
		Deleted:  spare([]int{2}, 4),
		Updated:  spare([]api.Pair{pair(7, values(30, 3), values(31, 3))}, pair(8, nil, nil)),
	}
	return x, c
}

// changedStock is the table of roomy after its change.
func changedStock() api.Table {
	return with(11, row(4, 20, 2), row(7, 31, 3), row(9, 40, 1), row(10, 50, 5))
}

// sameChange reports whether two changes are equal.
func sameChange(a, b api.Change) bool {
	samePair := func(p, q api.Pair) bool {
		return p.ID == q.ID && slices.Equal(p.Old, q.Old) && slices.Equal(p.New, q.New)
	}
	return slices.EqualFunc(a.Inserted, b.Inserted, slices.Equal[[]api.Value]) && slices.Equal(a.Deleted, b.Deleted) && slices.EqualFunc(a.Updated, b.Updated, samePair)
}

// wholeTable returns a table with all its lists up to their capacities.
func wholeTable(x api.Table) api.Table {
	x.Schema.Columns = x.Schema.Columns[:cap(x.Schema.Columns)]
	x.Rows = slices.Clone(x.Rows[:cap(x.Rows)])
	for i, r := range x.Rows {
		x.Rows[i].Values = r.Values[:cap(r.Values)]
	}
	return x
}

// wholeChange returns a change with all its lists up to their capacities.
func wholeChange(c api.Change) api.Change {
	c.Inserted = slices.Clone(c.Inserted[:cap(c.Inserted)])
	for i, r := range c.Inserted {
		c.Inserted[i] = r[:cap(r)]
	}
	c.Deleted = c.Deleted[:cap(c.Deleted)]
	c.Updated = slices.Clone(c.Updated[:cap(c.Updated)])
	for i, p := range c.Updated {
		c.Updated[i].Old, c.Updated[i].New = p.Old[:cap(p.Old)], p.New[:cap(p.New)]
	}
	return c
}

// R2: arguments stay as they are, with the spare capacity of all lists, also when the result is overwritten.
func TestArgumentsStay(t *testing.T) {
	x, c := roomy()
	if !Valid(x, c) {
		t.Error("the change is not valid")
	}
	got, e := Apply(x, c)
	if e != api.OK || !sameTable(got, changedStock()) {
		t.Errorf("Apply is %v, %d", got, e)
	}
	fillTable(got)
	before, change := roomy()
	if !sameTable(wholeTable(x), wholeTable(before)) {
		t.Errorf("the table is %v, was %v", wholeTable(x), wholeTable(before))
	}
	if !sameChange(wholeChange(c), wholeChange(change)) {
		t.Errorf("the change is %v, was %v", wholeChange(c), wholeChange(change))
	}
}

// R2: the result stays as it is when the arguments are overwritten.
func TestArgumentsAreNotKept(t *testing.T) {
	x, c := roomy()
	got, _ := Apply(x, c)
	fillTable(x)
	fillChange(c)
	if !sameTable(got, changedStock()) {
		t.Errorf("Apply is %v after the arguments have changed", got)
	}
}

// R2: the rows of the result share no memory with each other, though they are the same memory in the arguments.
func TestRowsAreNew(t *testing.T) {
	shared := cells(5, 5)
	x := api.Table{Schema: schema(count, count), Next: 4, Rows: []api.Row{{ID: 1, Values: shared}, {ID: 2, Values: shared}, {ID: 3, Values: shared}}}
	x.Schema.Columns[1].Name = "m"
	c := api.Change{Inserted: [][]api.Value{shared, shared}, Updated: []api.Pair{pair(2, shared, shared), pair(3, shared, shared)}}
	for i := range 5 {
		got, e := Apply(x, c)
		if e != api.OK || len(got.Rows) != 5 {
			t.Fatalf("Apply is %v, %d", got, e)
		}
		fill(got.Rows[i].Values, text("overwritten"))
		for j, r := range got.Rows {
			if j != i && !slices.Equal(r.Values, cells(5, 5)) {
				t.Errorf("the rows %d and %d share memory", i, j)
			}
		}
	}
}

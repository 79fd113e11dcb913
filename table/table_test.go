package table

import (
	"math"
	"slices"
	"strings"
	"testing"

	"triggerstore/api"
	"triggerstore/value"
)

func number(n int64) api.Value { return api.Value{Kind: api.Int, Int: n} }

func text(s string) api.Value { return api.Value{Kind: api.Text, Text: s} }

// cells returns a row of numbers.
func cells(numbers ...int64) []api.Value {
	var l []api.Value
	for _, n := range numbers {
		l = append(l, number(n))
	}
	return l
}

// row returns a row of numbers with its number.
func row(id int, numbers ...int64) api.Row {
	return api.Row{ID: id, Values: cells(numbers...)}
}

var (
	id    = api.Column{Name: "id", Type: api.Int, NotNull: true, Key: true}
	count = api.Column{Name: "n", Type: api.Int, NotNull: true}
	note  = api.Column{Name: "note", Type: api.Text}
)

// keyed is a schema whose second column is the key.
func keyed() api.Schema {
	return api.Schema{Name: "t", Columns: []api.Column{count, id}}
}

// plain is a schema without a key.
func plain() api.Schema {
	return api.Schema{Name: "t", Columns: []api.Column{count, note}}
}

// with returns a table of the schema keyed.
func with(next int, rows ...api.Row) api.Table {
	return api.Table{Schema: keyed(), Next: next, Rows: rows}
}

// lines returns so many rows with the numbers and the keys from 1 on.
func lines(amount int) []api.Row {
	var l []api.Row
	for i := range amount {
		l = append(l, row(i+1, 7, int64(i+1)))
	}
	return l
}

// equal reports whether two lists have the same rows in the same order; nil and empty lists are equal.
func equal(a, b [][]api.Value) bool {
	return slices.EqualFunc(a, b, slices.Equal[[]api.Value])
}

// P6.1: schemas and the number of the next row.
func TestValidWithoutRows(t *testing.T) {
	longest := api.Schema{Name: "t"}
	for i := range api.MaxColumns {
		longest.Columns = append(longest.Columns, api.Column{Name: "c" + strings.Repeat("x", i), Type: api.Bool})
	}
	tooLong := longest
	tooLong.Columns = append(slices.Clone(longest.Columns), count)
	for i, c := range []struct {
		t    api.Table
		want bool
	}{
		{api.Table{Schema: keyed(), Next: 1}, true},
		{api.Table{Schema: plain(), Next: 1}, true},
		{api.Table{Schema: longest, Next: 1}, true},
		{api.Table{Schema: plain(), Next: 1, Rows: []api.Row{}}, true},
		{api.Table{Schema: plain(), Next: 2}, true},
		{api.Table{Schema: plain(), Next: 1<<31 - 1}, true},
		{api.Table{Schema: plain(), Next: 1 << 31}, true},
		{api.Table{Schema: plain(), Next: 1<<31 + 1}, false},
		{api.Table{Schema: plain(), Next: 1 << 32}, false},
		{api.Table{Schema: plain(), Next: 1<<32 + 1}, false},
		{api.Table{Schema: plain(), Next: math.MaxInt}, false},
		{api.Table{Schema: plain(), Next: 0}, false},
		{api.Table{Schema: plain(), Next: -1}, false},
		{api.Table{Schema: plain(), Next: math.MinInt}, false},
		{api.Table{}, false},
		{api.Table{Next: 1}, false},
		{api.Table{Schema: tooLong, Next: 1}, false},
		{api.Table{Schema: api.Schema{Name: "t"}, Next: 1}, false},
		{api.Table{Schema: api.Schema{Name: "T", Columns: []api.Column{count}}, Next: 1}, false},
		{api.Table{Schema: api.Schema{Name: "t", Columns: []api.Column{count, count}}, Next: 1}, false},
		{api.Table{Schema: api.Schema{Name: "t", Columns: []api.Column{{Name: "n"}}}, Next: 1}, false},
		{api.Table{Schema: api.Schema{Name: "t", Columns: []api.Column{{Name: "n", Type: api.Int, Key: true}}}, Next: 1}, false},
		{api.Table{Schema: api.Schema{Name: "t", Columns: []api.Column{id, {Name: "n", Type: api.Int, NotNull: true, Key: true}}}, Next: 1}, false},
	} {
		if got := Valid(c.t); got != c.want {
			t.Errorf("%d: Valid(%v) is %v", i, c.t, got)
		}
	}
}

// P6.1: the numbers of rows ascend from 1 to Next - 1, with gaps or without.
func TestValidNumbers(t *testing.T) {
	for i, c := range []struct {
		t    api.Table
		want bool
	}{
		{with(2, row(1, 7, 5)), true},
		{with(1, row(1, 7, 5)), false},
		{with(3, row(1, 7, 5)), true},
		{with(9, row(8, 7, 5)), true},
		{with(8, row(8, 7, 5)), false},
		{with(7, row(8, 7, 5)), false},
		{with(9, row(0, 7, 5)), false},
		{with(9, row(-1, 7, 5)), false},
		{with(9, row(math.MinInt, 7, 5)), false},
		{with(9, row(math.MaxInt, 7, 5)), false},
		{with(1, row(0, 7, 5)), false},
		{with(9, row(1, 7, 5), row(2, 7, 6), row(8, 7, 4)), true},
		{with(9, row(1, 7, 5), row(2, 7, 6), row(9, 7, 4)), false},
		{with(9, row(0, 7, 5), row(2, 7, 6), row(8, 7, 4)), false},
		{with(9, row(2, 7, 5), row(1, 7, 6)), false},
		{with(9, row(2, 7, 5), row(2, 7, 6)), false},
		{with(9, row(1, 7, 5), row(3, 7, 6), row(2, 7, 4)), false},
		{with(9, row(1, 7, 5), row(3, 7, 6), row(3, 7, 4)), false},
		{with(1<<31, row(1<<31-1, 7, 5)), true},
		{with(1<<31, row(1<<31, 7, 5)), false},
		{with(1<<31-1, row(1<<31-1, 7, 5)), false},
		{with(1<<31+1, row(1, 7, 5)), false},
		{with(1<<31+1, row(1<<31, 7, 5)), false},
		{with(0, row(1, 7, 5)), false},
	} {
		if got := Valid(c.t); got != c.want {
			t.Errorf("%d: Valid(%v) is %v", i, c.t, got)
		}
	}
}

// P6.1: as many rows as the limit, and one more.
func TestValidAmount(t *testing.T) {
	if !Valid(with(1000, lines(api.MaxRows)...)) {
		t.Error("a full table is not valid")
	}
	if !Valid(with(api.MaxRows+1, lines(api.MaxRows)...)) {
		t.Error("a full table without gaps is not valid")
	}
	if !Valid(with(1000, lines(api.MaxRows + 1)[1:]...)) {
		t.Error("a full table that begins later is not valid")
	}
	if Valid(with(1000, lines(api.MaxRows+1)...)) {
		t.Error("a table with too many rows is valid")
	}
	if Valid(api.Table{Schema: plain(), Next: 1000, Rows: slices.Repeat([]api.Row{{ID: 1, Values: []api.Value{number(1), {}}}}, api.MaxRows+1)}) {
		t.Error("a table with too many rows that are one row is valid")
	}
}

// P6.1: each row, not only the first one, fits the schema.
func TestValidRows(t *testing.T) {
	null := api.Value{}
	for i, c := range []struct {
		values []api.Value
		want   bool
	}{
		{[]api.Value{number(1), text("a")}, true},
		{[]api.Value{number(1), null}, true},
		{[]api.Value{null, null}, false},
		{[]api.Value{number(1), number(1)}, false},
		{[]api.Value{text("a"), text("a")}, false},
		{[]api.Value{number(1), text("\n")}, false},
		{[]api.Value{number(1), {Kind: 9}}, false},
		{[]api.Value{number(1), {Int: 1}}, false},
		{[]api.Value{{Kind: api.Int, Text: "a"}, null}, false},
		{[]api.Value{number(1)}, false},
		{[]api.Value{number(1), null, null}, false},
		{nil, false},
	} {
		good := []api.Value{number(5), null}
		for at := range 3 {
			rows := []api.Row{{ID: 1, Values: good}, {ID: 2, Values: good}, {ID: 3, Values: good}}
			rows[at].Values = c.values
			if got := Valid(api.Table{Schema: plain(), Next: 9, Rows: rows}); got != c.want {
				t.Errorf("%d: Valid with the row %v at %d is %v", i, c.values, at, got)
			}
		}
	}
}

// P6.1: no two rows have the same key; without a key column, rows may be the same.
func TestValidKeys(t *testing.T) {
	first := api.Schema{Name: "t", Columns: []api.Column{id, count}}
	words := api.Schema{Name: "t", Columns: []api.Column{{Name: "w", Type: api.Text, NotNull: true, Key: true}}}
	same := []api.Value{number(5), text("a")}
	for i, c := range []struct {
		t    api.Table
		want bool
	}{
		{with(9, row(1, 7, 5), row(2, 7, 6)), true},
		{with(9, row(1, 7, 5), row(2, 8, 5)), false},
		{with(9, row(1, 7, 5), row(2, 7, 5)), false},
		{with(9, row(1, 5, 7), row(2, 7, 5)), true},
		{with(9, row(1, 7, 5), row(2, 7, 6), row(3, 7, 5)), false},
		{with(9, row(1, 7, 6), row(2, 7, 5), row(3, 7, 5)), false},
		{with(9, row(1, 7, 0), row(2, 7, -1), row(3, 7, math.MinInt64), row(4, 7, math.MaxInt64)), true},
		{api.Table{Schema: first, Next: 9, Rows: []api.Row{row(1, 7, 5), row(2, 7, 6)}}, false},
		{api.Table{Schema: first, Next: 9, Rows: []api.Row{row(1, 7, 5), row(2, 8, 5)}}, true},
		{api.Table{Schema: plain(), Next: 9, Rows: []api.Row{{ID: 1, Values: same}, {ID: 2, Values: same}}}, true},
		{api.Table{Schema: words, Next: 9, Rows: []api.Row{{ID: 1, Values: []api.Value{text("a")}}, {ID: 2, Values: []api.Value{text("A")}}}}, true},
		{api.Table{Schema: words, Next: 9, Rows: []api.Row{{ID: 1, Values: []api.Value{text("")}}, {ID: 2, Values: []api.Value{text("")}}}}, false},
	} {
		if got := Valid(c.t); got != c.want {
			t.Errorf("%d: Valid(%v) is %v", i, c.t, got)
		}
	}
}

// P6.1: New has the schema, no rows and the next number 1.
func TestNew(t *testing.T) {
	for _, s := range []api.Schema{keyed(), plain(), {Name: "stock_12", Columns: []api.Column{note}}} {
		got, e := New(s)
		if e != api.OK || got.Schema.Name != s.Name || !slices.Equal(got.Schema.Columns, s.Columns) || got.Next != 1 || len(got.Rows) != 0 {
			t.Errorf("New(%v) is %v, %d", s, got, e)
		}
		if !Valid(got) {
			t.Errorf("New(%v) is not valid", s)
		}
	}
}

// P6.1, R4: New refuses schemas that are not valid, and returns the zero value with the error.
func TestNewInvalid(t *testing.T) {
	for _, s := range []api.Schema{
		{},
		{Name: "t"},
		{Columns: []api.Column{count}},
		{Name: "Stock", Columns: []api.Column{count}},
		{Name: "t", Columns: []api.Column{count, count}},
		{Name: "t", Columns: []api.Column{{Name: "n", Type: 9}}},
		{Name: "t", Columns: []api.Column{{Name: "n", Type: api.Int, Key: true}}},
		{Name: "t", Columns: slices.Repeat([]api.Column{count}, api.MaxColumns+1)},
	} {
		got, e := New(s)
		if e != api.ErrInvalid || got.Schema.Name != "" || len(got.Schema.Columns) != 0 || got.Next != 0 || len(got.Rows) != 0 {
			t.Errorf("New(%v) is %v, %d", s, got, e)
		}
	}
}

// odd is a table that is not valid: numbers repeat and do not ascend, and rows are too short or too long.
func odd() api.Table {
	return api.Table{Schema: keyed(), Rows: []api.Row{
		row(6, 7, 5),
		row(4, 7, 6),
		row(5, 1),
		row(4, 8, 6),
		{ID: 9},
		row(-1, 3, 2, 1),
		row(0, 3, 2),
		{ID: 7, Values: []api.Value{{}, {Kind: 9}}},
	}}
}

// P6.2: Get returns the first row with a number, wherever it is.
func TestGet(t *testing.T) {
	good := with(9, row(1, 7, 5), row(3, 8, 6), row(8, 9, 4))
	for i, c := range []struct {
		t    api.Table
		id   int
		want []api.Value
		ok   bool
	}{
		{good, 1, cells(7, 5), true},
		{good, 3, cells(8, 6), true},
		{good, 8, cells(9, 4), true},
		{good, 0, nil, false},
		{good, 2, nil, false},
		{good, 4, nil, false},
		{good, 7, nil, false},
		{good, 9, nil, false},
		{good, -1, nil, false},
		{good, math.MinInt, nil, false},
		{good, math.MaxInt, nil, false},
		{odd(), 6, cells(7, 5), true},
		{odd(), 4, cells(7, 6), true},
		{odd(), 5, cells(1), true},
		{odd(), 9, nil, true},
		{odd(), -1, cells(3, 2, 1), true},
		{odd(), 0, cells(3, 2), true},
		{odd(), 7, []api.Value{{}, {Kind: 9}}, true},
		{odd(), 1, nil, false},
		{api.Table{}, 0, nil, false},
		{api.Table{}, 1, nil, false},
		{api.Table{Rows: []api.Row{row(1, 7, 5)}}, 1, cells(7, 5), true},
		{api.Table{Schema: plain(), Next: 9, Rows: []api.Row{{ID: 2, Values: []api.Value{number(1), text("a")}}}}, 2, []api.Value{number(1), text("a")}, true},
	} {
		got, ok := Get(c.t, c.id)
		if !slices.Equal(got, c.want) || ok != c.ok {
			t.Errorf("%d: Get(%v, %d) is %v, %v", i, c.t, c.id, got, ok)
		}
	}
}

// P6.2: Bag orders the rows by their values, not by their numbers, and keeps each as often as it is there.
func TestBag(t *testing.T) {
	for i, c := range []struct {
		t    api.Table
		want [][]api.Value
	}{
		{api.Table{}, nil},
		{with(1), nil},
		{with(9, row(1, 7, 5)), [][]api.Value{cells(7, 5)}},
		{with(9, row(1, 7, 5), row(3, 6, 9), row(8, 7, 4)), [][]api.Value{cells(6, 9), cells(7, 4), cells(7, 5)}},
		{with(9, row(8, 6, 5), row(3, 7, 5)), [][]api.Value{cells(6, 5), cells(7, 5)}},
		{with(9, row(1, 7, 5), row(2, 6, 5), row(3, 7, 5)), [][]api.Value{cells(6, 5), cells(7, 5), cells(7, 5)}},
		{
			api.Table{Schema: plain(), Next: 4, Rows: []api.Row{{ID: 1, Values: []api.Value{number(1), text("b")}}, {ID: 2, Values: []api.Value{number(1), text("B")}}, {ID: 3, Values: []api.Value{number(1), {}}}}},
			[][]api.Value{{number(1), {}}, {number(1), text("B")}, {number(1), text("b")}},
		},
		{odd(), [][]api.Value{nil, {{}, {Kind: 9}}, cells(1), cells(3, 2), cells(3, 2, 1), cells(7, 5), cells(7, 6), cells(8, 6)}},
		{api.Table{Rows: []api.Row{{}, {}}}, [][]api.Value{nil, nil}},
	} {
		if got := Bag(c.t); !equal(got, c.want) {
			t.Errorf("%d: Bag(%v) is %v", i, c.t, got)
		}
	}
}

// P6.3: Lookup looks at the key column alone, and finds the first row.
func TestLookup(t *testing.T) {
	good := with(9, row(1, 7, 5), row(3, 8, 6), row(8, 9, 4))
	first := api.Table{Schema: api.Schema{Name: "t", Columns: []api.Column{id, count}}, Next: 9, Rows: good.Rows}
	none := api.Table{Schema: plain(), Next: 9, Rows: good.Rows}
	twoKeys := api.Table{Schema: api.Schema{Columns: []api.Column{note, id, id}}, Rows: []api.Row{row(4, 1, 2, 3), row(5, 2, 3, 1)}}
	mixed := api.Table{Schema: keyed(), Rows: []api.Row{
		{ID: 2, Values: []api.Value{{}, {Kind: api.Bool, Int: 1}}},
		{ID: 3, Values: []api.Value{{}, {Kind: api.Int, Int: 1, Text: "a"}}},
		{ID: 4, Values: []api.Value{{}, text("1")}},
		{ID: 5, Values: []api.Value{{}, {}}},
		{ID: 6, Values: []api.Value{{}, number(1)}},
		{ID: 7, Values: []api.Value{{}, {Kind: 9}}},
	}}
	for i, c := range []struct {
		t    api.Table
		key  api.Value
		want int
		ok   bool
	}{
		{good, number(5), 1, true},
		{good, number(6), 3, true},
		{good, number(4), 8, true},
		{good, number(7), 0, false},
		{good, number(1), 0, false},
		{good, text("5"), 0, false},
		{good, api.Value{}, 0, false},
		{first, number(7), 1, true},
		{first, number(9), 8, true},
		{first, number(5), 0, false},
		{none, number(7), 0, false},
		{none, number(5), 0, false},
		{none, api.Value{}, 0, false},
		{api.Table{}, api.Value{}, 0, false},
		{with(1), number(5), 0, false},
		{with(1), api.Value{}, 0, false},
		// Repeated keys, and rows that have no value in the key column.
		{odd(), number(6), 4, true},
		{odd(), number(2), -1, true},
		{odd(), number(1), 0, false},
		{odd(), api.Value{}, 0, false},
		{odd(), api.Value{Kind: 9}, 7, true},
		{with(0, row(8, 1, 3), row(2, 1, 3)), number(3), 8, true},
		{with(0, row(0, 1, 3)), number(3), 0, true},
		// Keys that differ in one field, and null, which is the same as null.
		{mixed, api.Value{Kind: api.Bool, Int: 1}, 2, true},
		{mixed, api.Value{Kind: api.Int, Int: 1, Text: "a"}, 3, true},
		{mixed, text("1"), 4, true},
		{mixed, api.Value{}, 5, true},
		{mixed, number(1), 6, true},
		{mixed, api.Value{Kind: 9}, 7, true},
		{mixed, api.Value{Kind: 9, Int: 1}, 0, false},
		{mixed, api.Value{Kind: api.Bool}, 0, false},
		// Of two key columns, the first one counts.
		{twoKeys, number(3), 5, true},
		{twoKeys, number(2), 4, true},
		{twoKeys, number(1), 0, false},
	} {
		got, ok := Lookup(c.t, c.key)
		if got != c.want || ok != c.ok {
			t.Errorf("%d: Lookup(%v, %v) is %d, %v", i, c.t, c.key, got, ok)
		}
	}
}

// P6.3: Duplicate looks at the key column alone, whatever the numbers of the rows are.
func TestDuplicate(t *testing.T) {
	null := api.Value{}
	key := func(l ...api.Value) api.Table {
		x := api.Table{Schema: api.Schema{Columns: []api.Column{id}}}
		for i, v := range l {
			x.Rows = append(x.Rows, api.Row{ID: i, Values: []api.Value{v}})
		}
		return x
	}
	for i, c := range []struct {
		t    api.Table
		want bool
	}{
		{api.Table{}, false},
		{with(1), false},
		{with(9, row(1, 7, 5)), false},
		{with(9, row(1, 7, 5), row(2, 7, 6)), false},
		{with(9, row(1, 7, 5), row(2, 8, 5)), true},
		{with(9, row(1, 7, 5), row(2, 8, 6), row(3, 9, 5)), true},
		{with(9, row(1, 7, 6), row(2, 8, 5), row(3, 9, 5)), true},
		{with(9, row(1, 7, 5), row(1, 7, 5)), true},
		{with(9, row(1, 7, 5), row(1, 7, 6)), false},
		{with(9, row(1, 5, 7), row(2, 7, 5)), false},
		{api.Table{Schema: plain(), Rows: []api.Row{row(1, 7, 5), row(2, 7, 5)}}, false},
		{api.Table{Rows: []api.Row{row(1, 7, 5), row(1, 7, 5)}}, false},
		{odd(), true},
		{api.Table{Schema: keyed(), Rows: odd().Rows[:3]}, false},
		// Rows that are too short have no key: they are the same as no others, not even as null.
		{with(9, row(1, 7), row(2, 7)), false},
		{with(9, row(1), row(2)), false},
		{with(9, row(1, 7), row(2, 7), api.Row{ID: 3, Values: []api.Value{null, null}}), false},
		{with(9, row(1, 7, 5), row(2, 7), row(3, 7, 5)), true},
		{with(9, row(1, 7, 5, 1), row(2, 7, 5)), true},
		{with(9, row(1, 7, 5, 1), row(2, 7, 6, 1)), false},
		// Values that differ in one field.
		{key(number(1), number(2), number(0), null, text(""), text("a"), text("A"), text("1"), api.Value{Kind: api.Bool}, api.Value{Kind: api.Bool, Int: 1}, api.Value{Kind: 9}, api.Value{Kind: 9, Int: 1}, api.Value{Kind: 9, Text: "a"}), false},
		{key(null, null), true},
		{key(text("a"), text(strings.Clone("a"))), true},
		{key(api.Value{Kind: 9}, api.Value{Kind: 9}), true},
		{key(api.Value{Kind: api.Bool}, null, api.Value{Kind: api.Bool}), true},
		// Of two key columns, the first one counts.
		{api.Table{Schema: api.Schema{Columns: []api.Column{id, id}}, Rows: []api.Row{row(1, 1, 2), row(2, 2, 2)}}, false},
		{api.Table{Schema: api.Schema{Columns: []api.Column{id, id}}, Rows: []api.Row{row(1, 1, 2), row(2, 1, 3)}}, true},
	} {
		if got := Duplicate(c.t); got != c.want {
			t.Errorf("%d: Duplicate(%v) is %v", i, c.t, got)
		}
	}
}

// noise gives numbers that look random and are the same in every run.
type noise uint32

func (n *noise) below(limit int) int {
	*n = *n*1664525 + 1013904223
	return int(*n>>8) % limit
}

// someTable returns a table of up to six rows with few keys and few numbers, some rows without a key.
func someTable(draw *noise) api.Table {
	x := with(draw.below(7))
	for range draw.below(7) {
		r := row(draw.below(7), int64(draw.below(3)), int64(draw.below(9)))
		if draw.below(8) == 0 {
			r.Values = r.Values[:draw.below(2)]
		}
		x.Rows = append(x.Rows, r)
	}
	return x
}

// P6.1, P6.2, P6.3: all functions on many tables, against a comparison of all pairs of rows.
func TestManyTables(t *testing.T) {
	draw := noise(6)
	for range 5000 {
		x := someTable(&draw)
		duplicate, valid := false, x.Next >= 1
		for i, a := range x.Rows {
			valid = valid && len(a.Values) == 2 && a.ID >= 1 && a.ID < x.Next
			for _, b := range x.Rows[:i] {
				duplicate = duplicate || len(a.Values) == 2 && len(b.Values) == 2 && a.Values[1] == b.Values[1]
				valid = valid && b.ID < a.ID
			}
		}
		if Duplicate(x) != duplicate || Valid(x) != (valid && !duplicate) {
			t.Fatalf("%v: Duplicate is %v, Valid %v", x, Duplicate(x), Valid(x))
		}
		for n := -1; n < 10; n++ {
			checkFirst(t, x, n)
		}
		bag := Bag(x)
		if len(bag) != len(x.Rows) || !slices.IsSortedFunc(bag, value.CompareRows) {
			t.Fatalf("Bag(%v) is %v", x, bag)
		}
	}
}

// checkFirst compares Get of the number n and Lookup of the key n with the first rows that have them, which it finds from behind.
func checkFirst(t *testing.T, x api.Table, n int) {
	var values []api.Value
	found, number, keyFound := false, 0, false
	for _, r := range slices.Backward(x.Rows) {
		if r.ID == n {
			values, found = r.Values, true
		}
		if len(r.Values) == 2 && r.Values[1].Int == int64(n) {
			number, keyFound = r.ID, true
		}
	}
	if got, ok := Get(x, n); !slices.Equal(got, values) || ok != found {
		t.Fatalf("Get(%v, %d) is %v, %v", x, n, got, ok)
	}
	if got, ok := Lookup(x, value.Number(int64(n))); got != number || ok != keyFound {
		t.Fatalf("Lookup(%v, %d) is %d, %v", x, n, got, ok)
	}
}

// roomy returns a table whose lists all have spare capacity with something in it.
func roomy() api.Table {
	columns := []api.Column{count, id, note}[:2]
	rows := []api.Row{row(1, 9, 5, 8), row(3, 8, 6, 8), row(5), row(8, 7, 4, 8), row(9, 1, 1)}[:4]
	for i := range rows {
		rows[i].Values = append(rows[i].Values, text("spare"))[:min(2, len(rows[i].Values))]
	}
	return api.Table{Schema: api.Schema{Name: "t", Columns: columns}, Next: 9, Rows: rows}
}

// deepCopy copies a table with its lists up to their capacities.
func deepCopy(x api.Table) api.Table {
	x.Schema.Columns = slices.Clone(x.Schema.Columns[:cap(x.Schema.Columns)])
	x.Rows = slices.Clone(x.Rows[:cap(x.Rows)])
	for i, r := range x.Rows {
		x.Rows[i].Values = slices.Clone(r.Values[:cap(r.Values)])
	}
	return x
}

// sameTable reports whether two tables are equal up to the lengths of their lists.
func sameTable(a, b api.Table) bool {
	sameRow := func(r, s api.Row) bool { return r.ID == s.ID && slices.Equal(r.Values, s.Values) }
	return a.Schema.Name == b.Schema.Name && slices.Equal(a.Schema.Columns, b.Schema.Columns) && a.Next == b.Next && slices.EqualFunc(a.Rows, b.Rows, sameRow)
}

// fill overwrites a list up to its capacity.
func fill[E any](l []E, with E) {
	for i := range l[:cap(l)] {
		l[:cap(l)][i] = with
	}
}

// R2: arguments stay as they are, with the spare capacity of all lists, also when the results are overwritten.
func TestArgumentsStay(t *testing.T) {
	x := roomy()
	before := deepCopy(x)
	Valid(x)
	Lookup(x, number(6))
	Duplicate(x)
	for _, r := range x.Rows {
		values, ok := Get(x, r.ID)
		if !ok {
			t.Errorf("there is no row %d", r.ID)
		}
		fill(values, text("overwritten"))
	}
	bag := Bag(x)
	for _, values := range bag {
		fill(values, text("overwritten"))
	}
	fill(bag, cells(99))
	made, e := New(x.Schema)
	if e != api.OK {
		t.Errorf("New is %d", e)
	}
	fill(made.Schema.Columns, note)
	fill(made.Rows, row(99, 99))
	if !sameTable(deepCopy(x), before) {
		t.Errorf("the table is %v, was %v", deepCopy(x), before)
	}
}

// R2: results stay as they are when the arguments are overwritten.
func TestArgumentsAreNotKept(t *testing.T) {
	x := roomy()
	values, _ := Get(x, 3)
	bag := Bag(x)
	made, _ := New(x.Schema)
	for _, r := range x.Rows {
		fill(r.Values, text("overwritten"))
	}
	fill(x.Rows, row(99, 99))
	fill(x.Schema.Columns, note)
	if !slices.Equal(values, cells(8, 6)) {
		t.Errorf("Get is %v after the table has changed", values)
	}
	if !equal(bag, [][]api.Value{nil, cells(7, 4), cells(8, 6), cells(9, 5)}) {
		t.Errorf("Bag is %v after the table has changed", bag)
	}
	if !slices.Equal(made.Schema.Columns, []api.Column{count, id}) {
		t.Errorf("New has the columns %v after the schema has changed", made.Schema.Columns)
	}
}

// R2: the rows of a bag share no memory with each other, though they are the same memory in the table.
func TestBagRowsAreNew(t *testing.T) {
	shared := cells(7, 5)
	x := with(9, api.Row{ID: 1, Values: shared}, api.Row{ID: 2, Values: shared})
	bag := Bag(x)
	fill(bag[0], text("overwritten"))
	if !slices.Equal(bag[1], cells(7, 5)) {
		t.Error("two rows of a bag share memory")
	}
}

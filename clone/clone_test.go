package clone

import (
	"reflect"
	"slices"
	"testing"

	"triggerstore/api"
)

// store returns two tables whose lists have spare capacity; every call makes new ones.
func store() []api.Table {
	values := func(n int64) []api.Value {
		return append(make([]api.Value, 0, 4), api.Value{Kind: api.Int, Int: n}, api.Value{Kind: api.Text, Text: "a"}, api.Value{})
	}
	one := func(name string, next int) api.Table {
		columns := append(make([]api.Column, 0, 3), api.Column{Name: "id", Type: api.Int, NotNull: true, Key: true}, api.Column{Name: "note", Type: api.Text})
		rows := append(make([]api.Row, 0, 4), api.Row{ID: 2, Values: values(20)}, api.Row{ID: -5, Values: values(21)}, api.Row{ID: 7})
		return api.Table{Schema: api.Schema{Name: name, Columns: columns}, Next: next, Rows: rows}
	}
	return append(make([]api.Table, 0, 3), one("b", 9), one("a", 4))
}

// fill overwrites a list up to its capacity with zero values.
func fill[E any](l []E) {
	clear(l[:cap(l)])
}

// fillTables overwrites tables with all their lists.
func fillTables(l []api.Table) {
	for _, t := range l {
		for _, r := range t.Rows {
			fill(r.Values)
		}
		fill(t.Rows)
		fill(t.Schema.Columns)
	}
	fill(l)
}

// parts returns the copies of a store and of its parts.
func parts(l []api.Table) []any {
	first := l[0]
	return []any{Tables(l), Table(first), Schema(first.Schema), Rows(first.Rows), Row(first.Rows[0]), Values(first.Rows[0].Values)}
}

// R2: copies have all fields, and stay when what they are copies of is overwritten.
func TestCopies(t *testing.T) {
	l := store()
	copies := parts(l)
	first := store()[0]
	want := []any{store(), first, first.Schema, first.Rows, first.Rows[0], first.Rows[0].Values}
	if !reflect.DeepEqual(copies, want) {
		t.Errorf("the copies are %v, want %v", copies, want)
	}
	fillTables(l)
	if !reflect.DeepEqual(copies, want) {
		t.Errorf("the copies are %v after all has been overwritten, want %v", copies, want)
	}
}

// R2: what was copied stays when the copies are overwritten, also its spare capacity.
func TestCopiedStays(t *testing.T) {
	l := store()
	fillTables(Tables(l))
	one := Table(l[0])
	fillTables([]api.Table{one})
	fill(Schema(l[0].Schema).Columns)
	rows := Rows(l[0].Rows)
	fill(rows[0].Values)
	fill(rows)
	fill(Row(l[0].Rows[0]).Values)
	fill(Values(l[0].Rows[0].Values))
	if !reflect.DeepEqual(l, store()) {
		t.Errorf("the tables are %v", l)
	}
}

// R2: nil and empty lists are equivalent, and become nil.
func TestEmpty(t *testing.T) {
	for i, list := range [][]api.Value{nil, {}} {
		if Values(list) != nil || Row(api.Row{ID: 3, Values: list}).Values != nil {
			t.Errorf("%d: the copy of no values is not nil", i)
		}
	}
	if Rows(nil) != nil || Rows([]api.Row{}) != nil || Tables(nil) != nil || Tables([]api.Table{}) != nil {
		t.Error("the copy of an empty list is not nil")
	}
	if got := Table(api.Table{}); got.Schema.Columns != nil || got.Rows != nil || got.Next != 0 {
		t.Errorf("the copy of the zero table is %v", got)
	}
	same := slices.Repeat([]api.Row{store()[0].Rows[0]}, 2)
	twice := Rows(same)
	fill(twice[0].Values)
	if twice[1].Values[0].Int != 20 {
		t.Error("two copies of a row share memory")
	}
}

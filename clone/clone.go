// Package clone: copies that share no memory with what they are copies of. Layers return them, because no result may hold memory of an argument.
package clone

import "triggerstore/api"

// Values returns a copy of a row. An empty row becomes nil, whichever of its two forms it has, since no result tells them apart.
func Values(l []api.Value) []api.Value {
	return append([]api.Value(nil), l...)
}

// Row returns a copy of a row with its number.
func Row(r api.Row) api.Row {
	return api.Row{ID: r.ID, Values: Values(r.Values)}
}

// Rows returns a copy of rows with their numbers.
func Rows(l []api.Row) []api.Row {
	var rows []api.Row
	for _, r := range l {
		rows = append(rows, Row(r))
	}
	return rows
}

// Schema returns a copy of a schema.
func Schema(s api.Schema) api.Schema {
	s.Columns = append([]api.Column(nil), s.Columns...)
	return s
}

// Table returns a copy of a table.
func Table(t api.Table) api.Table {
	return api.Table{Schema: Schema(t.Schema), Next: t.Next, Rows: Rows(t.Rows)}
}

// Tables returns a copy of tables.
func Tables(l []api.Table) []api.Table {
	var tables []api.Table
	for _, t := range l {
		tables = append(tables, Table(t))
	}
	return tables
}

package print

import (
	"strings"

	"triggerstore/api"
	"triggerstore/value"
)

var types = [...]string{api.Int: "INT", api.Bool: "BOOL", api.Text: "TEXT"}

var events = [...]string{api.Insert: "INSERT", api.Update: "UPDATE", api.Delete: "DELETE"}

func (w *writer) statement(s api.Statement) {
	switch s.Kind {
	case api.StmtCreateTable:
		w.createTable(s.Schema)
	case api.StmtDropTable:
		w.put("DROP", "TABLE", s.Name)
	case api.StmtCreateTrigger:
		w.createTrigger(s.Trigger)
	case api.StmtDropTrigger:
		w.put("DROP", "TRIGGER", s.Name)
	case api.StmtSelect:
		w.query(s.Query)
	case api.StmtChange:
		w.action(s.Action)
	}
}

func (w *writer) createTable(s api.Schema) {
	w.put("CREATE", "TABLE", s.Name, "(")
	for i, c := range s.Columns {
		w.comma(i)
		w.put(c.Name, types[c.Type])
		if c.Key { // a key is not null, too, which goes without saying
			w.put("PRIMARY", "KEY")
		} else if c.NotNull {
			w.put("NOT", "NULL")
		}
	}
	w.put(")")
}

func (w *writer) query(q api.Query) {
	w.put("SELECT")
	if q.Star {
		w.put("*")
	}
	w.exprs(q.Items)
	w.from(q)
}

func (w *writer) action(a api.Action) {
	switch a.Kind {
	case api.ActInsert:
		w.insert(a)
	case api.ActUpdate:
		w.update(a)
	case api.ActDelete:
		w.put("DELETE", "FROM", a.Table)
		w.where(a.Where)
	case api.ActAbort:
		w.put("ABORT", value.Format(api.Value{Kind: api.Text, Text: a.Text}))
	case api.ActSet:
		w.put("SET", "NEW", ".")
		w.set(a.Sets[0])
	}
}

func (w *writer) insert(a api.Action) {
	w.put("INSERT", "INTO", a.Table)
	for _, q := range a.Query { // there is one, or there are rows
		w.query(q)
	}
	for i, row := range a.Rows {
		if i == 0 {
			w.put("VALUES")
		}
		w.comma(i)
		w.put("(")
		w.exprs(row)
		w.put(")")
	}
}

func (w *writer) update(a api.Action) {
	w.put("UPDATE", a.Table, "SET")
	for i, s := range a.Sets {
		w.comma(i)
		w.set(s)
	}
	w.where(a.Where)
}

func (w *writer) set(s api.Set) {
	w.put(s.Column, "=")
	w.expr(s.Expr)
}

func (w *writer) createTrigger(t api.Trigger) {
	w.put("CREATE", "TRIGGER", t.Name)
	w.choice(t.Before, "BEFORE", "AFTER")
	w.put(events[t.Event])
	w.optionalNames("OF", t.Of)
	w.put("ON", t.Table, "FOR", "EACH")
	w.choice(t.EachRow, "ROW", "STATEMENT")
	w.optionalNames("PRECEDES", t.Precedes)
	w.optionalNames("FOLLOWS", t.Follows)
	for _, r := range t.Rank { // there is at most one
		w.rank(r)
	}
	for _, e := range t.When { // there is at most one
		w.put("WHEN")
		w.enclosed(e)
	}
	w.put("BEGIN")
	for _, a := range t.Actions {
		w.action(a)
		w.put(";")
	}
	w.put("END")
}

// choice writes the first keyword if yes, and the other one if not.
func (w *writer) choice(yes bool, first, other string) {
	if yes {
		w.put(first)
	} else {
		w.put(other)
	}
}

func (w *writer) rank(r api.Rank) {
	w.put("RANK", r.Table, ".", r.Column, "FROM")
	w.limit(r.Low)
	w.put("TO")
	w.limit(r.High)
}

// limit writes a number whose minus sign is a token of its own, since no token is a negative number.
func (w *writer) limit(n int64) {
	digits, negative := strings.CutPrefix(value.Format(value.Number(n)), "-")
	if negative {
		w.put("-")
	}
	w.put(digits)
}

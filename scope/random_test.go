package scope

import (
	"maps"
	"math/rand"
	"slices"
	"testing"

	"triggerstore/api"
)

// The second reading of P14.2 to P14.4: names in maps instead of frames, and all errors in their order, of which the first one counts.

type reading struct {
	names  map[string]int // the types of columns by qualifier, period and name
	tables []api.Table
	errors *[]api.Errno
}

func newReading(frames []api.Frame, tables []api.Table) reading {
	r := reading{names: map[string]int{}, tables: tables, errors: &[]api.Errno{}}
	for _, f := range frames {
		r.add(f)
	}
	return r
}

// add puts the names of a frame in the place of equal ones. Of equal columns the first one is put last.
func (r reading) add(f api.Frame) {
	for _, c := range slices.Backward(f.Columns) {
		if !f.Strict {
			r.names["."+c.Name] = c.Type
		}
		if f.Name != "" {
			r.names[f.Name+"."+c.Name] = c.Type
		}
	}
}

// expect notes an error unless something holds.
func (r reading) expect(holds bool, code api.Errno) {
	if !holds {
		*r.errors = append(*r.errors, code)
	}
}

// first returns what has been read if there was no error, and otherwise the first one.
func first[T any](r reading, x T) (T, api.Errno) {
	if len(*r.errors) > 0 {
		var zero T
		return zero, (*r.errors)[0]
	}
	return x, api.OK
}

func (r reading) from(q api.Query) (reading, api.Schema) {
	i := slices.IndexFunc(r.tables, func(t api.Table) bool { return t.Schema.Name == q.From })
	r.expect(i >= 0, api.ErrName)
	r.names = maps.Clone(r.names)
	if i < 0 {
		return r, api.Schema{}
	}
	s := r.tables[i].Schema
	r.add(api.Frame{Name: q.From, Columns: s.Columns})
	return r, s
}

func (r reading) condition(l []api.Expr) {
	if len(l) > 0 {
		kind := r.expr(l[0])
		r.expect(kind == api.Bool || kind == api.Null, api.ErrType)
	}
}

func (r reading) exprs(l []api.Expr) []int {
	var types []int
	for _, e := range l {
		types = append(types, r.expr(e))
	}
	return types
}

func (r reading) query(q api.Query) []int {
	inside, s := r.from(q)
	var types []int
	if q.Star {
		for _, c := range s.Columns {
			types = append(types, c.Type)
		}
	} else {
		types = inside.exprs(q.Items)
	}
	inside.condition(q.Where)
	return types
}

// whole notes an error for an expression that is not well-formed, and reports whether it is.
func (r reading) whole(e api.Expr) bool {
	amount, ok := amounts[e.Kind]
	ok = ok && len(e.Args) == amount[0] && len(e.Sub) == amount[1] && (e.Kind != api.ExprBinary || e.Op > 0 && e.Op < 14)
	ok = ok && !slices.ContainsFunc(e.Sub, func(q api.Query) bool { return len(q.Items) != amount[2] || len(q.Where) > 1 })
	r.expect(ok, api.ErrInvalid)
	return ok
}

// expr returns the type of e, or anything behind an error.
func (r reading) expr(e api.Expr) int {
	if !r.whole(e) {
		return 0
	}
	switch e.Kind {
	case 1:
		return e.Value.Kind
	case 2:
		kind, ok := r.names[e.Table+"."+e.Name]
		r.expect(ok, api.ErrName)
		return kind
	case 8, 9, 10, 11, 12:
		inside, _ := r.from(e.Sub[0])
		items := append(inside.exprs(e.Sub[0].Items), api.Null)
		inside.condition(e.Sub[0].Where)
		r.expect(e.Kind != api.ExprSum || fits("INT", items...), api.ErrType)
		return map[int]int{8: api.Bool, 9: api.Int, 10: api.Int, 11: items[0], 12: items[0]}[e.Kind]
	}
	wants := map[int]string{3: "BOOL", 4: "INT", 6: "ANY", 7: "ONE"}[e.Kind]
	if e.Kind == 5 {
		wants = []string{"", "BOOL", "BOOL", "ONE", "ONE", "ONE", "ONE", "ONE", "ONE", "INT", "INT", "INT", "INT", "INT"}[e.Op]
	}
	r.expect(fits(wants, r.exprs(e.Args)...), api.ErrType)
	if wants == "INT" {
		return api.Int
	}
	return api.Bool
}

// A maker makes random expressions that have a type at their place, but for a few faults.
type maker struct {
	*rand.Rand
	faults int // how many of 1000 expressions have one
}

func oneOf[T any](m maker, l ...T) T { return l[m.Intn(len(l))] }

func (m maker) columns() []api.Column {
	var l []api.Column
	for range m.Intn(5) {
		l = append(l, api.Column{Name: oneOf(m, "a", "b", "c", "d"), Type: oneOf(m, 0, 1, 1, 1, 2, 2, 2, 3, 3)})
	}
	return l
}

func (m maker) place() ([]api.Frame, []api.Table) {
	var frames []api.Frame
	for range m.Intn(5) {
		frames = append(frames, api.Frame{Name: oneOf(m, "", "t", "u", "NEW", "OLD"), Strict: m.Intn(2) == 0, Columns: m.columns()})
	}
	var tables []api.Table
	for range 1 + m.Intn(4) {
		tables = append(tables, api.Table{Schema: api.Schema{Name: oneOf(m, "t", "u", "v", "INSERTED"), Columns: m.columns()}})
	}
	return frames, tables
}

// column returns a column of a type at a place, or a literal if there is none.
func (m maker) column(kind int, frames []api.Frame) api.Expr {
	var l []api.Expr
	for _, f := range frames {
		for _, c := range f.Columns {
			for _, qualifier := range []string{"", f.Name} {
				i, k, ok := Resolve(frames, qualifier, c.Name)
				if ok && frames[i].Columns[k].Type == kind {
					l = append(l, api.Expr{Kind: api.ExprColumn, Table: qualifier, Name: c.Name})
				}
			}
		}
	}
	return oneOf(m, append(l, literal(kind))...)
}

// expr returns an expression of a type or null.
func (m maker) expr(kind, depth int, frames []api.Frame, tables []api.Table) api.Expr {
	if m.Intn(1000) < m.faults {
		return m.fault(m.expr(oneOf(m, 0, 1, 2, 3), depth, frames, tables))
	}
	if m.Intn(15) == 0 {
		kind = api.Null
	}
	if depth <= 0 || m.Intn(6) == 0 {
		return m.column(kind, frames)
	}
	arg := func(kind int) api.Expr { return m.expr(kind, depth-1, frames, tables) }
	over := func(kinds ...int) func() api.Expr {
		return func() api.Expr { return m.over(oneOf(m, kinds...), kind, depth-1, frames, tables) }
	}
	one := oneOf(m, 1, 2, 3)
	l := []func() api.Expr{over(api.ExprMin, api.ExprMax)}
	switch kind {
	case api.Int:
		l = append(l, over(api.ExprCount), over(api.ExprSum),
			func() api.Expr { return with(api.ExprNegate, arg(1)) },
			func() api.Expr { return join(oneOf(m, 9, 10, 11, 12, 13), arg(1), arg(1)) })
	case api.Bool:
		l = append(l, over(api.ExprExists),
			func() api.Expr { return with(api.ExprNot, arg(2)) },
			func() api.Expr { return with(api.ExprIsNull, arg(one)) },
			func() api.Expr { return with(api.ExprBetween, arg(one), arg(one), arg(one)) },
			func() api.Expr { return join(oneOf(m, 1, 2), arg(2), arg(2)) },
			func() api.Expr { return join(oneOf(m, 3, 4, 5, 6, 7, 8), arg(one), arg(one)) })
	}
	return oneOf(m, l...)()
}

func (m maker) over(kind, item, depth int, frames []api.Frame, tables []api.Table) api.Expr {
	q := m.query(depth, frames, tables, item)
	q.Star, q.Items = kind == api.ExprExists, q.Items[:amounts[kind][2]]
	return over(kind, q)
}

// query returns a query with items of these types.
func (m maker) query(depth int, frames []api.Frame, tables []api.Table, types ...int) api.Query {
	q := api.Query{From: tables[m.Intn(len(tables))].Schema.Name}
	s, _ := Source(tables, q.From)
	frames = append(slices.Clone(frames), api.Frame{Name: q.From, Columns: s.Columns})
	for _, kind := range types {
		q.Items = append(q.Items, m.expr(kind, depth, frames, tables))
	}
	if m.Intn(2) == 0 {
		q.Where = append(q.Where, m.expr(api.Bool, depth, frames, tables))
	}
	return q
}

// fault changes one thing in e, which may already have the wrong type.
func (m maker) fault(e api.Expr) api.Expr {
	other := api.Expr{Kind: api.ExprColumn, Table: oneOf(m, "", "", "t", "NEW", "w"), Name: oneOf(m, "a", "b", "e", "")}
	for i, q := range e.Sub {
		switch m.Intn(5) {
		case 0:
			e.Sub[i].From = oneOf(m, "u", "w", "")
		case 1:
			e.Sub[i].Star = !q.Star
		case 2:
			e.Sub[i].Items = append(q.Items, other)
		case 3:
			e.Sub[i].Where = append(q.Where, other)
		}
	}
	switch m.Intn(12) {
	case 0:
		e.Kind = m.Intn(16) - 1
	case 1:
		e.Op = m.Intn(17) - 1
	case 2:
		e.Args = append(e.Args, other)
	case 3:
		e.Args = e.Args[:len(e.Args)/2]
	case 4:
		e.Sub = append(e.Sub, e.Sub...)
	case 5, 6, 7:
		return other
	}
	return e
}

// P14.2 to P14.4: random trees at random places, with and without faults.
func TestRandomTrees(t *testing.T) {
	answers := map[api.Errno]int{}
	for i := range 20000 {
		m := maker{rand.New(rand.NewSource(int64(i))), 100 * (i % 2)}
		frames, tables := m.place()
		e := m.expr(1+m.Intn(3), 1+m.Intn(4), frames, tables)
		r := newReading(frames, tables)
		kind, code := first(r, r.expr(e))
		expectType(t, e, frames, tables, kind, code)
		answers[code]++

		q := m.query(1+m.Intn(2), frames, tables, 1, 0, 3)
		q.Star = m.Intn(4) == 0
		r = newReading(frames, tables)
		types, code := first(r, r.query(q))
		expectTypes(t, q, frames, tables, types, code)
		answers[code]++

		l := []api.Expr{e, m.expr(api.Bool, 2, frames, tables)}[m.Intn(3)/2:]
		r = newReading(frames, tables)
		r.condition(l)
		if _, code = first(r, true); Condition(l, frames, tables) != code {
			t.Errorf("%+v: %d, want %d", l, Condition(l, frames, tables), code)
		}
		if t.Failed() {
			t.Fatalf("at the place %+v, %+v", frames, tables)
		}
	}
	for _, code := range []api.Errno{api.ErrName, api.ErrType, api.ErrInvalid} {
		if answers[code] < 1000 {
			t.Errorf("the answers are %v", answers)
		}
	}
	if answers[api.OK] < 20000 {
		t.Errorf("the answers are %v", answers)
	}
}

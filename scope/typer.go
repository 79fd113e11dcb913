package scope

import (
	"slices"

	"triggerstore/api"
)

// typer finds types at one place of a text: with the frames that can be named there, and the tables that can be read.
type typer struct {
	frames []api.Frame
	tables []api.Table
}

// newTyper returns a typer with a list of frames of its own, behind which it may write.
func newTyper(frames []api.Frame, tables []api.Table) typer {
	return typer{frames: slices.Clone(frames), tables: tables}
}

// inside returns the typer for the parts of a query that reads a table. It may write over the frames of queries whose parts have been typed, so that nested queries do not each need a list of frames.
func (t typer) inside(s api.Schema) typer {
	t.frames = append(t.frames, api.Frame{Name: s.Name, Columns: s.Columns})
	return t
}

func (t typer) expr(e api.Expr) (int, api.Errno) {
	if !hasItsParts(e) {
		return 0, api.ErrInvalid
	}
	switch e.Kind {
	case api.ExprLiteral:
		return e.Value.Kind, api.OK
	case api.ExprColumn:
		return t.column(e)
	case api.ExprExists, api.ExprCount, api.ExprSum, api.ExprMin, api.ExprMax:
		return t.over(e.Kind, e.Sub[0])
	}
	args, code := t.exprs(e.Args)
	if code != api.OK {
		return 0, code
	}
	return operation(e, args)
}

func (t typer) exprs(l []api.Expr) ([]int, api.Errno) {
	var types []int
	for _, e := range l {
		kind, code := t.expr(e)
		if code != api.OK {
			return nil, code
		}
		types = append(types, kind)
	}
	return types, api.OK
}

func (t typer) column(e api.Expr) (int, api.Errno) {
	frame, column, ok := Resolve(t.frames, e.Table, e.Name)
	if !ok {
		return 0, api.ErrName
	}
	return t.frames[frame].Columns[column].Type, api.OK
}

// over returns the type of an expression of a kind with a query.
func (t typer) over(kind int, q api.Query) (int, api.Errno) {
	q.Star = false // it is the kind that tells what such a query returns
	items, code := t.query(q)
	switch {
	case code != api.OK:
		return 0, code
	case kind == api.ExprExists:
		return api.Bool, api.OK
	case kind == api.ExprCount:
		return api.Int, api.OK
	case kind == api.ExprSum:
		return give(api.Int, items, api.Int)
	}
	return items[0], api.OK
}

// query returns the types of the columns that a query returns. An error of its condition comes last.
func (t typer) query(q api.Query) ([]int, api.Errno) {
	s, ok := Source(t.tables, q.From)
	if !ok {
		return nil, api.ErrName
	}
	t = t.inside(s)
	types, code := t.returned(q, s)
	if code == api.OK {
		code = t.condition(q.Where)
	}
	if code != api.OK {
		return nil, code
	}
	return types, api.OK
}

// returned returns the types of the columns that a query of a table returns, whatever its condition is.
func (t typer) returned(q api.Query, s api.Schema) ([]int, api.Errno) {
	if !q.Star {
		return t.exprs(q.Items)
	}
	var types []int
	for _, c := range s.Columns {
		types = append(types, c.Type)
	}
	return types, api.OK
}

func (t typer) condition(l []api.Expr) api.Errno {
	if len(l) == 0 {
		return api.OK
	}
	kind, code := t.expr(l[0])
	if code == api.OK && !Assignable(api.Bool, kind) {
		return api.ErrType
	}
	return code
}

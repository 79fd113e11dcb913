package scope

import (
	"reflect"
	"slices"
	"strings"
	"testing"

	"triggerstore/api"
	"triggerstore/parse"
)

// kinds has the types by the words of the tests.
var kinds = map[string]int{"NULL": api.Null, "INT": api.Int, "BOOL": api.Bool, "TEXT": api.Text}

// columns returns the columns of a definition such as "n INT, s TEXT", or without types, whose columns have the type Null.
func columns(definition string) []api.Column {
	var l []api.Column
	for _, part := range strings.Split(definition, ",") {
		name, kind, _ := strings.Cut(strings.TrimSpace(part), " ")
		l = append(l, api.Column{Name: name, Type: kinds[kind]})
	}
	return l
}

func table(name, definition string) api.Table {
	return api.Table{Schema: api.Schema{Name: name, Columns: columns(definition)}, Next: 1}
}

// frame returns a frame that can be named without a qualifier, strict one that cannot.
func frame(name, definition string) api.Frame {
	return api.Frame{Name: name, Columns: columns(definition)}
}

func strict(name, definition string) api.Frame {
	return api.Frame{Name: name, Strict: true, Columns: columns(definition)}
}

// expr returns the tree of a text.
func expr(t *testing.T, text string) api.Expr {
	t.Helper()
	e, at, code := parse.Expr(text)
	if code != api.OK {
		t.Fatalf("%q: %d at %d", text, code, at)
	}
	return e
}

// exprs returns the trees of some texts.
func exprs(t *testing.T, texts ...string) []api.Expr {
	t.Helper()
	var l []api.Expr
	for _, text := range texts {
		l = append(l, expr(t, text))
	}
	return l
}

// query returns the query of a select.
func query(t *testing.T, text string) api.Query {
	t.Helper()
	s, at, code := parse.Statement(text)
	if code != api.OK || s.Kind != api.StmtSelect {
		t.Fatalf("%q: %d at %d", text, code, at)
	}
	return s.Query
}

// place is the place of a column among frames, if it is resolved.
type place struct {
	frame, column int
	ok            bool
}

func expectPlace(t *testing.T, frames []api.Frame, qualifier, name string, want place) {
	t.Helper()
	if f, c, ok := Resolve(frames, qualifier, name); f != want.frame || c != want.column || ok != want.ok {
		t.Errorf("%q.%q: %d, %d, %v, want %v, among %v", qualifier, name, f, c, ok, want, frames)
	}
}

var none place

// P14.1: without a qualifier, the last frame that has the column and is not strict.
func TestResolveWithoutQualifier(t *testing.T) {
	frames := []api.Frame{frame("p", "x, y"), frame("q", "y, z"), strict("NEW", "y, z, w"), frame("", "v")}
	for name, want := range map[string]place{
		"x": {0, 0, true}, // outer frames are looked at, too
		"y": {1, 0, true}, // the last one counts
		"z": {1, 1, true}, // a strict one does not, though it is behind the others
		"w": none,         // nor if no other one has the column
		"v": {3, 0, true}, // the name plays no part
		"p": none,         // a frame is no column
		"Y": none,
		"":  none,
	} {
		expectPlace(t, frames, "", name, want)
	}
	expectPlace(t, []api.Frame{strict("", "x")}, "", "x", none)
	expectPlace(t, []api.Frame{frame("p", "x"), strict("", "x")}, "", "x", place{0, 0, true})
}

// P14.1: with a qualifier, the last frame that has it as its name and has the column, strict or not.
func TestResolveWithQualifier(t *testing.T) {
	frames := []api.Frame{frame("p", "x, y"), strict("OLD", "x"), strict("NEW", "x, w"), frame("q", "y"), frame("p", "y, z"), strict("p", "z")}
	for qualified, want := range map[string]place{
		"p.x":   {0, 0, true}, // a later frame of this name does not hide the columns that it does not have
		"p.y":   {4, 0, true},
		"p.z":   {5, 0, true}, // strict ones can be named with their qualifier
		"q.y":   {3, 0, true}, // a later frame of another name does not hide it
		"q.x":   none,
		"OLD.x": {1, 0, true},
		"NEW.x": {2, 0, true},
		"NEW.w": {2, 1, true},
		"OLD.w": none,
		"r.x":   none,
		"P.x":   none,
		"new.x": none,
		"p.":    none,
	} {
		qualifier, name, _ := strings.Cut(qualified, ".")
		expectPlace(t, frames, qualifier, name, want)
	}
}

// P14.1: the first one of equal columns of a frame; and frames without columns, or none at all.
func TestResolveInFrame(t *testing.T) {
	frames := []api.Frame{frame("p", "x, y, x"), frame("q", "z, y, y"), {Name: "q"}, {}}
	expectPlace(t, frames, "", "x", place{0, 0, true})
	expectPlace(t, frames, "", "y", place{1, 1, true})
	expectPlace(t, frames, "q", "y", place{1, 1, true})
	expectPlace(t, frames, "p", "y", place{0, 1, true})
	expectPlace(t, nil, "", "x", none)
	expectPlace(t, nil, "p", "x", none)
	expectPlace(t, []api.Frame{{Columns: []api.Column{{Name: "a"}, {}}}}, "", "", place{0, 1, true})
}

// places returns the places of columns by their names, with and without qualifiers. Later frames and earlier columns take the places of others.
func places(frames []api.Frame) map[string]place {
	m := map[string]place{}
	for i, f := range frames {
		for k := len(f.Columns) - 1; k >= 0; k-- {
			if !f.Strict {
				m["."+f.Columns[k].Name] = place{i, k, true}
			}
			if f.Name != "" {
				m[f.Name+"."+f.Columns[k].Name] = place{i, k, true}
			}
		}
	}
	return m
}

// P14.1: all lists of up to three frames that differ in name, strictness and columns.
func TestResolveManyFrames(t *testing.T) {
	var all []api.Frame
	for _, name := range []string{"", "p", "NEW"} {
		for _, l := range [][]api.Column{nil, columns("x"), columns("y"), columns("y, x"), columns("x, x, y")} {
			all = append(all, api.Frame{Name: name, Columns: l}, api.Frame{Name: name, Strict: true, Columns: l})
		}
	}
	expectPlaces := func(frames ...api.Frame) {
		want := places(frames)
		for _, qualifier := range []string{"", "p", "NEW", "q"} {
			for _, name := range []string{"x", "y", "z"} {
				expectPlace(t, frames, qualifier, name, want[qualifier+"."+name])
			}
		}
	}
	for _, a := range all {
		expectPlaces(a)
		for _, b := range all {
			expectPlaces(a, b)
			for _, c := range all {
				expectPlaces(a, b, c)
			}
		}
	}
}

// P14.1: the first table with a name, whatever else it has.
func TestSource(t *testing.T) {
	tables := []api.Table{table("t", "n INT"), table("u", "m INT, n TEXT"), table("INSERTED", "n INT"), table("u", "z BOOL"), {Next: -1}}
	tables[1].Schema.Columns[0] = api.Column{Name: "m", Type: api.Int, NotNull: true, Key: true}
	tables[1].Rows = []api.Row{{ID: 3}}
	for name, want := range map[string]int{"t": 0, "u": 1, "INSERTED": 2, "": 4} {
		if got, ok := Source(tables, name); !ok || !reflect.DeepEqual(got, tables[want].Schema) {
			t.Errorf("%q: %v, %v", name, got, ok)
		}
	}
	for _, name := range []string{"v", "T", "n", "DELETED"} {
		if got, ok := Source(tables, name); ok || !reflect.DeepEqual(got, api.Schema{}) {
			t.Errorf("%q: %v, %v", name, got, ok)
		}
	}
	if _, ok := Source(nil, "t"); ok {
		t.Error("there is a table among none")
	}
}

// P14.4: null fits everywhere, and each type where it is wanted, also those that do not exist.
func TestAssignable(t *testing.T) {
	for to := -1; to <= 5; to++ {
		for from := -1; from <= 5; from++ {
			if got := Assignable(to, from); got != (from == 0 || to == from) {
				t.Errorf("%d to %d: %v", from, to, got)
			}
		}
	}
}

// world returns frames and tables that all types are found with.
func world() ([]api.Frame, []api.Table) {
	frames := []api.Frame{strict("OLD", "n INT, s TEXT, ok BOOL, a INT"), strict("NEW", "n INT, s TEXT, ok BOOL, b TEXT"), frame("t", "n INT, s TEXT, ok BOOL")}
	tables := []api.Table{table("t", "n INT, s TEXT, ok BOOL"), table("u", "m INT, n TEXT"), table("INSERTED", "i INT, ok TEXT"), table("u", "z BOOL")}
	return frames, tables
}

// P14.4: a condition is left out, a truth value or null.
func TestCondition(t *testing.T) {
	frames, tables := world()
	for text, want := range map[string]api.Errno{
		"ok":                         api.OK,
		"TRUE":                       api.OK,
		"NULL":                       api.OK,
		"NOT NULL":                   api.OK,
		"(SELECT MAX (NULL) FROM t)": api.OK,
		"(SELECT MIN (ok) FROM t)":   api.OK,
		"n = 1":                      api.OK,
		"n":                          api.ErrType,
		"1":                          api.ErrType,
		"s":                          api.ErrType,
		"n + 1":                      api.ErrType,
		"NULL + NULL":                api.ErrType,
		"(SELECT COUNT (*) FROM t)":  api.ErrType,
		"x":                          api.ErrName,
		"NOT n":                      api.ErrType,
		"x + TRUE":                   api.ErrName,
	} {
		if got := Condition(exprs(t, text), frames, tables); got != want {
			t.Errorf("%s: %d, want %d", text, got, want)
		}
	}
	for _, l := range [][]api.Expr{nil, {}} {
		if got := Condition(l, frames, tables); got != api.OK {
			t.Errorf("no condition: %d", got)
		}
	}
	if got := Condition([]api.Expr{{}}, frames, tables); got != api.ErrInvalid {
		t.Errorf("the zero expression: %d", got)
	}
	if got := Condition(exprs(t, "ok", "x"), frames, tables); got != api.OK {
		t.Errorf("the second element is looked at: %d", got)
	}
}

// P14.3: the types of the columns of a table, or of the items.
func TestTypes(t *testing.T) {
	frames, tables := world()
	for text, want := range map[string]string{
		"SELECT * FROM t":                   "INT TEXT BOOL",
		"SELECT * FROM u":                   "INT TEXT", // the first table of this name
		"SELECT * FROM u WHERE m = 1":       "INT TEXT",
		"SELECT * FROM INSERTED WHERE NULL": "INT TEXT",
		"SELECT n FROM t":                   "INT",
		"SELECT n FROM u":                   "TEXT", // the table hides the frame t
		"SELECT t.n, OLD.n, ok, INSERTED.ok, t.ok FROM INSERTED": "INT INT TEXT TEXT BOOL",
		"SELECT NULL, m, s FROM u":                               "NULL INT TEXT",
		"SELECT m, n = 'a', m + 1, NEW.b FROM u WHERE NEW.ok":    "INT BOOL INT TEXT",
		"SELECT EXISTS (SELECT * FROM t WHERE t.n = m) FROM u":   "BOOL",
	} {
		var types []int
		for _, word := range strings.Fields(want) {
			types = append(types, kinds[word])
		}
		expectTypes(t, query(t, text), frames, tables, types, api.OK)
	}
}

func expectTypes(t *testing.T, q api.Query, frames []api.Frame, tables []api.Table, want []int, code api.Errno) {
	t.Helper()
	got, e := Types(q, frames, tables)
	if len(got) != len(want) || len(want) > 0 && !reflect.DeepEqual(got, want) || e != code {
		t.Errorf("%+v: %v, %d, want %v, %d", q, got, e, want, code)
	}
}

// P14.3: the errors of a query in their order, which leave no types.
func TestTypesErrors(t *testing.T) {
	frames, tables := world()
	for text, want := range map[string]api.Errno{
		"SELECT * FROM v":                          api.ErrName,
		"SELECT n + s FROM v":                      api.ErrName, // that of the table comes first
		"SELECT * FROM v WHERE n + s":              api.ErrName,
		"SELECT * FROM DELETED":                    api.ErrName,
		"SELECT n, x FROM t":                       api.ErrName,
		"SELECT z FROM u":                          api.ErrName, // there is an earlier table of this name
		"SELECT NOT n, x FROM t":                   api.ErrType, // items in order
		"SELECT x, NOT n FROM t":                   api.ErrName,
		"SELECT NOT n FROM t WHERE x":              api.ErrType, // items ahead of the condition
		"SELECT x FROM t WHERE n":                  api.ErrName,
		"SELECT n FROM t WHERE n":                  api.ErrType,
		"SELECT * FROM t WHERE n":                  api.ErrType,
		"SELECT * FROM t WHERE x":                  api.ErrName,
		"SELECT * FROM u WHERE n = 1":              api.ErrType, // the table hides the frame in its condition, too
		"SELECT u.n FROM t":                        api.ErrName,
		"SELECT (SELECT MAX (m) FROM t) FROM t":    api.ErrName,
		"SELECT (SELECT MAX (n) FROM u), m FROM t": api.ErrName, // what a query in an item reads is not read behind it
	} {
		expectTypes(t, query(t, text), frames, tables, nil, want)
	}
}

// P14.3: queries that are not well-formed are read as far as the promise names their parts.
func TestTypesOfOtherQueries(t *testing.T) {
	frames, tables := world()
	star := api.Query{Star: true, From: "u", Items: exprs(t, "x")}
	expectTypes(t, star, frames, tables, []int{api.Int, api.Text}, api.OK)
	star.Where = exprs(t, "m = 1", "x")
	expectTypes(t, star, frames, tables, []int{api.Int, api.Text}, api.OK)
	star.Where = exprs(t, "x", "m = 1")
	expectTypes(t, star, frames, tables, nil, api.ErrName)
	expectTypes(t, api.Query{From: "u"}, frames, tables, nil, api.OK)
	expectTypes(t, api.Query{From: "u", Where: exprs(t, "m")}, frames, tables, nil, api.ErrType)
	expectTypes(t, api.Query{From: "u", Items: []api.Expr{{}}, Where: exprs(t, "x")}, frames, tables, nil, api.ErrInvalid)
	expectTypes(t, api.Query{From: "u", Items: exprs(t, "x"), Where: []api.Expr{{}}}, frames, tables, nil, api.ErrName)
	expectTypes(t, api.Query{From: "u", Where: []api.Expr{{}}}, frames, tables, nil, api.ErrInvalid)
	expectTypes(t, api.Query{}, frames, tables, nil, api.ErrName)
	expectTypes(t, query(t, "SELECT * FROM u"), frames, nil, nil, api.ErrName)
	many := api.Query{From: "u", Items: exprs(t, strings.Fields(strings.Repeat("m n ", 20))...)}
	expectTypes(t, many, nil, tables, slices.Repeat([]int{api.Int, api.Text}, 20), api.OK)
	twice := []api.Table{table("w", "a INT, a TEXT")}
	expectTypes(t, query(t, "SELECT * FROM w"), nil, twice, []int{api.Int, api.Text}, api.OK)
	expectTypes(t, query(t, "SELECT a FROM w"), nil, twice, []int{api.Int}, api.OK)
	expectTypes(t, query(t, "SELECT * FROM w"), nil, []api.Table{{Schema: api.Schema{Name: "w"}}}, nil, api.OK)
}

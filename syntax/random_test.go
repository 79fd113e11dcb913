package syntax

import (
	"math"
	"math/rand"
	"reflect"
	"regexp"
	"slices"
	"strings"
	"testing"

	"triggerstore/api"
	"triggerstore/schema"
)

var (
	namePattern = regexp.MustCompile(`\A[a-z][a-z0-9_]{0,11}\z`)
	textPattern = regexp.MustCompile(`\A[ -~]{0,64}\z`)
)

// A maker makes random trees that are well-formed.
type maker struct{ *rand.Rand }

func (m maker) name() string { return []string{"a", "b", "c1", "d_", long}[m.Intn(5)] }

func (m maker) names(least int) []string {
	l := []string{"a", "b", "c", "d", "e", "f", "g", "h"}
	m.Shuffle(len(l), func(i, k int) { l[i], l[k] = l[k], l[i] })
	return l[:least+m.Intn(len(l)+1-least)]
}

// some returns the result of f with the given probability in percent, or nothing.
func some[T any](m maker, percent int, f func() T) []T {
	if m.Intn(100) < percent {
		return []T{f()}
	}
	return nil
}

// many returns from 1 to limit results of f, mostly few.
func many[T any](m maker, limit int, f func() T) []T {
	l := []T{f()}
	for len(l) < limit && m.Intn(2) == 0 {
		l = append(l, f())
	}
	return l
}

func (m maker) literal() api.Expr {
	return literal([]api.Value{
		{}, {Kind: api.Int, Int: m.Int63()}, {Kind: api.Int}, {Kind: api.Bool, Int: int64(m.Intn(2))}, {Kind: api.Text, Text: "it's"}, {Kind: api.Text},
	}[m.Intn(6)])
}

func (m maker) expr(depth int) api.Expr {
	if depth <= 0 || m.Intn(8) == 0 {
		if m.Intn(2) == 0 {
			return m.literal()
		}
		return qualified([]string{"", "", "t", "NEW", "OLD", "INSERTED", "DELETED"}[m.Intn(7)], m.name())
	}
	arg := func() api.Expr { return m.expr(depth - 1) }
	switch kind := 3 + m.Intn(14); kind {
	case api.ExprNot, api.ExprNegate:
		return with(kind, arg())
	case api.ExprIsNull:
		e := isNull(arg())
		e.Not = m.Intn(2) == 0
		return e
	case api.ExprBetween:
		return between(arg(), arg(), arg())
	case api.ExprExists, api.ExprCount, api.ExprSum, api.ExprMin, api.ExprMax:
		q := m.query(depth - 1)
		q.Star, q.Items = kind == api.ExprExists, nil
		if kind > api.ExprCount {
			q.Items = list(arg())
		}
		return over(kind, q)
	}
	return join(1+m.Intn(13), arg(), arg())
}

func (m maker) query(depth int) api.Query {
	f := func() api.Expr { return m.expr(depth) }
	q := api.Query{From: []string{"t", "INSERTED", "DELETED"}[m.Intn(3)], Where: some(m, 50, f)}
	if q.Star = m.Intn(2) == 0; !q.Star {
		q.Items = many(m, 8, f)
	}
	return q
}

func (m maker) action(kind int) api.Action {
	f := func() api.Expr { return m.expr(2) }
	var assigned []api.Set
	for _, name := range m.names(1) {
		assigned = append(assigned, api.Set{Column: name, Expr: f()})
	}
	switch kind {
	case api.ActInsert:
		if m.Intn(2) == 0 {
			return insertFrom(m.query(2))
		}
		return insert(many(m, 8, func() []api.Expr { return many(m, 6, f) })...)
	case api.ActUpdate:
		x := update(assigned...)
		x.Where = some(m, 50, f)
		return x
	case api.ActDelete:
		return remove(some(m, 50, f)...)
	case api.ActSet:
		return api.Action{Kind: api.ActSet, Sets: assigned[:1]}
	}
	return abort("it's no")
}

func (m maker) trigger() api.Trigger {
	r := api.Trigger{Name: m.name(), Table: m.name(), Before: m.Intn(2) == 0, Event: 1 + m.Intn(3), EachRow: m.Intn(2) == 0, Precedes: m.names(0), Follows: m.names(0)}
	if r.Event == api.Update {
		r.Of = m.names(0)
	}
	kinds := []int{api.ActInsert, api.ActUpdate, api.ActDelete, api.ActAbort}
	if r.Before {
		kinds = []int{api.ActAbort}
		if r.EachRow && r.Event != api.Delete {
			kinds = append(kinds, api.ActSet)
		}
	} else {
		r.Rank = some(m, 50, func() api.Rank {
			return api.Rank{Table: m.name(), Column: m.name(), Low: -m.Int63(), High: m.Int63()}
		})
	}
	r.When = some(m, 50, func() api.Expr { return m.expr(2) })
	r.Actions = many(m, 4, func() api.Action { return m.action(kinds[m.Intn(len(kinds))]) })
	return r
}

func (m maker) statement() api.Statement {
	s := api.Statement{Kind: 1 + m.Intn(6)}
	switch s.Kind {
	case api.StmtCreateTable:
		s.Schema.Name = m.name()
		for _, name := range m.names(2)[:1+m.Intn(2)] {
			s.Schema.Columns = append(s.Schema.Columns, api.Column{Name: name, Type: 1 + m.Intn(3)})
		}
	case api.StmtDropTable, api.StmtDropTrigger:
		s.Name = m.name()
	case api.StmtCreateTrigger:
		s.Trigger = m.trigger()
	case api.StmtSelect:
		s.Query = m.query(3)
	case api.StmtChange:
		s.Action = m.action(1 + m.Intn(3))
	}
	return s
}

// places returns all fields and elements of a tree that can be changed.
func places(v reflect.Value) []reflect.Value {
	switch v.Kind() {
	case reflect.Struct:
		var l []reflect.Value
		for i := range v.NumField() {
			l = append(l, places(v.Field(i))...)
		}
		return l
	case reflect.Slice:
		l := []reflect.Value{v}
		for i := range v.Len() {
			l = append(l, places(v.Index(i))...)
		}
		return l
	}
	return []reflect.Value{v}
}

// spoil changes one place of a tree at random, which may leave it well-formed.
func (m maker) spoil(tree any) {
	l := places(reflect.ValueOf(tree).Elem())
	v := l[m.Intn(len(l))]
	for range 50 { // most places are zero fields of literals and columns
		if !v.IsZero() || m.Intn(20) == 0 {
			break
		}
		v = l[m.Intn(len(l))]
	}
	switch v.Kind() {
	case reflect.Bool:
		v.SetBool(!v.Bool())
	case reflect.Int, reflect.Int64:
		v.SetInt([]int64{-1, 0, 1, 2, 3, 4, 5, 6, 7, 8, 9, 10, 11, 12, 13, 14, math.MinInt64, math.MaxInt64}[m.Intn(18)])
	case reflect.String:
		v.SetString([]string{"", "a", "b", "A", "NEW", "OLD", "INSERTED", "SELECT", "\n", "it's", long, tooLong}[m.Intn(12)])
	case reflect.Slice:
		m.spoilList(v)
	}
}

func (m maker) spoilList(v reflect.Value) {
	switch n := v.Len(); {
	case n == 0:
		v.Set(reflect.MakeSlice(v.Type(), m.Intn(2), 2))
	case m.Intn(2) == 0:
		v.Set(v.Slice(0, m.Intn(n)))
	default:
		for range 1 + m.Intn(8) {
			v.Set(reflect.Append(v, v.Index(m.Intn(n))))
		}
	}
}

// The second reading of P11.1 to P11.5: the sentences one by one, over all fields by their names.

// uses reports whether all fields of a tree but its kind and those listed are zero.
func uses(tree any, fields string) bool {
	v := reflect.ValueOf(tree)
	for i := range v.NumField() {
		f := v.Field(i)
		if !slices.Contains(strings.Fields("Kind "+fields), v.Type().Field(i).Name) && !isEmpty(f) {
			return false
		}
	}
	return true
}

func isEmpty(v reflect.Value) bool {
	switch v.Kind() {
	case reflect.Slice:
		return v.Len() == 0
	case reflect.Struct:
		for i := range v.NumField() {
			if !isEmpty(v.Field(i)) {
				return false
			}
		}
		return true
	}
	return v.IsZero()
}

func every[T any](l []T, f func(T) bool) bool {
	return !slices.ContainsFunc(l, func(x T) bool { return !f(x) })
}

func isName(s string) bool { return namePattern.MatchString(s) }

func areDifferentNames(l []string) bool {
	sorted := slices.Sorted(slices.Values(l))
	return len(l) <= 8 && every(l, isName) && len(slices.Compact(sorted)) == len(l)
}

func isText(s string) bool { return textPattern.MatchString(s) }

func isLiteral(v api.Value) bool {
	switch v.Kind {
	case 0:
		return v.Int == 0 && v.Text == ""
	case 1:
		return v.Int >= 0 && v.Text == ""
	case 2:
		return (v.Int == 0 || v.Int == 1) && v.Text == ""
	}
	return v.Kind == 3 && v.Int == 0 && isText(v.Text)
}

func exprConforms(e api.Expr) bool {
	fields := map[int]string{1: "Value", 2: "Table Name", 3: "Args", 4: "Args", 5: "Op Args", 6: "Not Args", 7: "Args", 8: "Sub", 9: "Sub", 10: "Sub", 11: "Sub", 12: "Sub"}
	amounts := map[int]int{3: 1, 4: 1, 5: 2, 6: 1, 7: 3}
	used, exists := fields[e.Kind]
	if !exists || !uses(e, used) || len(e.Args) != amounts[e.Kind] || !every(e.Args, exprConforms) {
		return false
	}
	switch {
	case e.Kind == 1:
		return isLiteral(e.Value)
	case e.Kind == 2:
		return isName(e.Name) && (e.Table == "" || isName(e.Table) || slices.Contains([]string{"NEW", "OLD", "INSERTED", "DELETED"}, e.Table))
	case e.Kind == 5:
		return e.Op >= 1 && e.Op <= 13
	case e.Kind >= 8:
		items := map[int]int{8: 0, 9: 0, 10: 1, 11: 1, 12: 1}[e.Kind]
		return len(e.Sub) == 1 && partsConform(e.Sub[0]) && e.Sub[0].Star == (e.Kind == 8) && len(e.Sub[0].Items) == items
	}
	return true
}

func partsConform(q api.Query) bool {
	return (isName(q.From) || q.From == "INSERTED" || q.From == "DELETED") && len(q.Where) <= 1 && every(q.Where, exprConforms) && every(q.Items, exprConforms)
}

func queryConforms(q api.Query) bool {
	return partsConform(q) && (q.Star && len(q.Items) == 0 || !q.Star && len(q.Items) >= 1 && len(q.Items) <= 8)
}

func actionConforms(a api.Action) bool {
	fields := map[int]string{1: "Table Rows Query", 2: "Table Sets Where", 3: "Table Where", 4: "Text", 5: "Sets"}
	used, exists := fields[a.Kind]
	if !exists || !uses(a, used) || a.Kind <= 3 && !isName(a.Table) || len(a.Where) > 1 || !every(a.Where, exprConforms) {
		return false
	}
	var columns []string
	for _, s := range a.Sets {
		if !exprConforms(s.Expr) {
			return false
		}
		columns = append(columns, s.Column)
	}
	row := func(l []api.Expr) bool { return len(l) >= 1 && len(l) <= 6 && every(l, exprConforms) }
	switch a.Kind {
	case 1:
		return len(a.Rows) >= 1 && len(a.Rows) <= 8 && len(a.Query) == 0 && every(a.Rows, row) || len(a.Rows) == 0 && len(a.Query) == 1 && queryConforms(a.Query[0])
	case 2:
		return len(columns) >= 1 && areDifferentNames(columns)
	case 4:
		return isText(a.Text)
	case 5:
		return len(columns) == 1 && isName(columns[0])
	}
	return true
}

func triggerConforms(t api.Trigger) bool {
	kinds := []int{1, 2, 3, 4}
	if t.Before && t.EachRow && t.Event != 3 {
		kinds = []int{4, 5}
	} else if t.Before {
		kinds = []int{4}
	}
	rank := func(r api.Rank) bool {
		return isName(r.Table) && isName(r.Column) && r.Low > math.MinInt64 && r.High > math.MinInt64 && !t.Before
	}
	act := func(a api.Action) bool { return slices.Contains(kinds, a.Kind) && actionConforms(a) }
	return isName(t.Name) && isName(t.Table) && t.Event >= 1 && t.Event <= 3 && areDifferentNames(t.Of) && (len(t.Of) == 0 || t.Event == 2) &&
		areDifferentNames(t.Precedes) && areDifferentNames(t.Follows) && len(t.Rank) <= 1 && every(t.Rank, rank) &&
		len(t.When) <= 1 && every(t.When, exprConforms) && len(t.Actions) >= 1 && len(t.Actions) <= 4 && every(t.Actions, act)
}

func statementConforms(s api.Statement) bool {
	fields := map[int]string{1: "Schema", 2: "Name", 3: "Trigger", 4: "Name", 5: "Query", 6: "Action"}
	used, exists := fields[s.Kind]
	if !exists || !uses(s, used) {
		return false
	}
	switch s.Kind {
	case 1:
		return schema.Valid(s.Schema)
	case 3:
		return triggerConforms(s.Trigger)
	case 5:
		return queryConforms(s.Query)
	case 6:
		return s.Action.Kind >= 1 && s.Action.Kind <= 3 && actionConforms(s.Action)
	}
	return isName(s.Name)
}

// A meter counts the levels of a text while it is written (chapters 12 and 13), without its tokens.
type meter struct{ open, most int }

// level counts what is written inside parentheses, or behind NOT or a minus sign.
func (m *meter) level(write func()) {
	m.open++
	m.most = max(m.most, m.open)
	write()
	m.open--
}

// expr writes e at a place with a least precedence.
func (m *meter) expr(e api.Expr, least int) {
	binary := []struct{ own, left, right int }{{}, {1, 1, 2}, {2, 2, 3}, {4, 5, 5}, {4, 5, 5}, {4, 5, 5}, {4, 5, 5}, {4, 5, 5}, {4, 5, 5}, {5, 5, 6}, {5, 5, 6}, {6, 6, 7}, {6, 6, 7}, {6, 6, 7}}[e.Op]
	own := map[int]int{3: 3, 4: 7, 5: binary.own, 6: 4, 7: 4}[e.Kind]
	if own != 0 && own < least {
		m.level(func() { m.expr(e, 1) })
		return
	}
	switch e.Kind {
	case 3:
		m.level(func() { m.expr(e.Args[0], 3) })
	case 4:
		m.level(func() { m.expr(e.Args[0], 7) })
	case 5:
		m.expr(e.Args[0], binary.left)
		m.expr(e.Args[1], binary.right)
	case 6, 7:
		m.list(e.Args, 5)
	case 8:
		m.level(func() { m.list(e.Sub[0].Where, 1) })
	case 9, 10, 11, 12:
		m.level(func() {
			m.level(func() { m.list(e.Sub[0].Items, 1) })
			m.list(e.Sub[0].Where, 1)
		})
	}
}

func (m *meter) list(l []api.Expr, least int) {
	for _, e := range l {
		m.expr(e, least)
	}
}

func (m *meter) action(a api.Action) {
	for _, row := range a.Rows {
		m.level(func() { m.list(row, 1) })
	}
	for _, q := range a.Query {
		m.list(slices.Concat(q.Items, q.Where), 1)
	}
	for _, s := range a.Sets {
		m.expr(s.Expr, 1)
	}
	m.list(a.Where, 1)
}

func (m *meter) statement(s api.Statement) {
	if s.Kind == api.StmtCreateTable {
		m.level(func() {})
	}
	m.list(slices.Concat(s.Query.Items, s.Query.Where), 1)
	m.action(s.Action)
	for _, e := range s.Trigger.When {
		m.level(func() { m.expr(e, 1) })
	}
	for _, a := range s.Trigger.Actions {
		m.action(a)
	}
}

// expectReading checks that f and the second reading agree on a tree as it is made and after each of some changes, and returns how often each answer was given.
func expectReading[T any](t *testing.T, m maker, x T, f, conforms func(T) bool, answers map[bool]int) {
	t.Helper()
	if !f(x) || !conforms(x) {
		t.Fatalf("%+v is not well-formed", x)
	}
	for range 3 {
		m.spoil(&x)
		got := f(x)
		if got != conforms(x) {
			t.Fatalf("%v for %+v", got, x)
		}
		answers[got]++
	}
}

// P11.1 to P11.5: random trees that are well-formed, and such with a few changes.
func TestRandomTrees(t *testing.T) {
	m := maker{rand.New(rand.NewSource(1))}
	answers := map[bool]int{}
	for range 1500 {
		expectReading(t, m, m.expr(4), ValidExpr, exprConforms, answers)
		expectReading(t, m, m.query(2), ValidQuery, queryConforms, answers)
		expectReading(t, m, m.action(1+m.Intn(5)), ValidAction, actionConforms, answers)
		expectReading(t, m, m.trigger(), ValidTrigger, triggerConforms, answers)
		expectReading(t, m, m.statement(), Valid, statementConforms, answers)
	}
	if answers[true] < 2000 || answers[false] < 2000 {
		t.Errorf("the answers are %v", answers)
	}
}

// P11.6, P11.7: the levels of random trees are those that open when their texts are written.
func TestRandomLevels(t *testing.T) {
	m := maker{rand.New(rand.NewSource(2))}
	seen := map[int]bool{}
	for range 20000 {
		e, s := m.expr(1+m.Intn(7)), m.statement()
		var x, y meter
		x.expr(e, 1)
		y.statement(s)
		if LevelsOf(e) != x.most {
			t.Fatalf("%+v has %d levels, want %d", e, LevelsOf(e), x.most)
		}
		if Levels(s) != y.most {
			t.Fatalf("%+v has %d levels, want %d", s, Levels(s), y.most)
		}
		seen[x.most] = true
	}
	for levels := range api.MaxLevels {
		if !seen[levels] {
			t.Errorf("no tree has %d levels", levels)
		}
	}
}

package print

import (
	"fmt"
	"math"
	"math/rand"
	"reflect"
	"slices"
	"strings"
	"testing"

	"triggerstore/api"
	"triggerstore/syntax"
	"triggerstore/token"
	"triggerstore/value"
)

// A maker makes random trees that are well-formed.
type maker struct{ *rand.Rand }

func (m maker) name() string { return []string{"a", "b", "c1", "d_", long}[m.Intn(5)] }

func (m maker) names(least int) []string {
	l := []string{"a", "b", "c", "d", "e", "f", "g", "h"}
	m.Shuffle(len(l), func(i, k int) { l[i], l[k] = l[k], l[i] })
	return l[:least+m.Intn(len(l)+1-least)]
}

// some returns the result of f with the given probability in percent, or nothing.
func some[T any](m maker, percent int, f func() T) []T {
	if m.Intn(100) < percent {
		return []T{f()}
	}
	return nil
}

// many returns from 1 to limit results of f, mostly few.
func many[T any](m maker, limit int, f func() T) []T {
	l := []T{f()}
	for len(l) < limit && m.Intn(2) == 0 {
		l = append(l, f())
	}
	return l
}

func (m maker) literal() api.Expr {
	return literal([]api.Value{
		{}, {Kind: api.Int, Int: m.Int63()}, {Kind: api.Int}, {Kind: api.Bool, Int: int64(m.Intn(2))}, {Kind: api.Text, Text: "it's"}, {Kind: api.Text, Text: []string{"", "(", ")", ",", ".", ";"}[m.Intn(6)]},
	}[m.Intn(6)])
}

func (m maker) expr(depth int) api.Expr {
	if depth <= 0 || m.Intn(8) == 0 {
		if m.Intn(2) == 0 {
			return m.literal()
		}
		return qualified([]string{"", "", "t", "NEW", "OLD", "INSERTED", "DELETED"}[m.Intn(7)], m.name())
	}
	arg := func() api.Expr { return m.expr(depth - 1) }
	switch kind := 3 + m.Intn(14); kind {
	case api.ExprNot, api.ExprNegate:
		return with(kind, arg())
	case api.ExprIsNull:
		e := isNull(arg())
		e.Not = m.Intn(2) == 0
		return e
	case api.ExprBetween:
		return between(arg(), arg(), arg())
	case api.ExprExists, api.ExprCount, api.ExprSum, api.ExprMin, api.ExprMax:
		q := m.query(depth - 1)
		q.Star, q.Items = kind == api.ExprExists, nil
		if kind > api.ExprCount {
			q.Items = list(arg())
		}
		return over(kind, q)
	}
	return join(1+m.Intn(13), arg(), arg())
}

func (m maker) query(depth int) api.Query {
	f := func() api.Expr { return m.expr(depth) }
	q := api.Query{From: []string{"t", "INSERTED", "DELETED"}[m.Intn(3)], Where: some(m, 50, f)}
	if q.Star = m.Intn(2) == 0; !q.Star {
		q.Items = many(m, 8, f)
	}
	return q
}

func (m maker) action(kind int) api.Action {
	f := func() api.Expr { return m.expr(2) }
	var assigned []api.Set
	for _, name := range m.names(1) {
		assigned = append(assigned, api.Set{Column: name, Expr: f()})
	}
	switch kind {
	case api.ActInsert:
		if m.Intn(2) == 0 {
			return insertFrom(m.query(2))
		}
		return insert(many(m, 8, func() []api.Expr { return many(m, 6, f) })...)
	case api.ActUpdate:
		x := update(assigned...)
		x.Where = some(m, 50, f)
		return x
	case api.ActDelete:
		return remove(some(m, 50, f)...)
	case api.ActSet:
		return api.Action{Kind: api.ActSet, Sets: assigned[:1]}
	}
	return abort("it's no")
}

func (m maker) trigger() api.Trigger {
	r := api.Trigger{Name: m.name(), Table: m.name(), Before: m.Intn(2) == 0, Event: 1 + m.Intn(3), EachRow: m.Intn(2) == 0, Precedes: m.names(0), Follows: m.names(0)}
	if r.Event == api.Update {
		r.Of = m.names(0)
	}
	kinds := []int{api.ActInsert, api.ActUpdate, api.ActDelete, api.ActAbort}
	if r.Before {
		kinds = []int{api.ActAbort}
		if r.EachRow && r.Event != api.Delete {
			kinds = append(kinds, api.ActSet)
		}
	} else {
		r.Rank = some(m, 50, func() api.Rank {
			return api.Rank{Table: m.name(), Column: m.name(), Low: -m.Int63(), High: m.Int63()}
		})
	}
	r.When = some(m, 50, func() api.Expr { return m.expr(2) })
	r.Actions = many(m, 4, func() api.Action { return m.action(kinds[m.Intn(len(kinds))]) })
	return r
}

func (m maker) statement() api.Statement {
	s := api.Statement{Kind: 1 + m.Intn(6)}
	switch s.Kind {
	case api.StmtCreateTable:
		s.Schema.Name = m.name()
		for _, name := range m.names(2)[:1+m.Intn(2)] {
			s.Schema.Columns = append(s.Schema.Columns, api.Column{Name: name, Type: 1 + m.Intn(3), NotNull: m.Intn(2) == 0})
		}
		if s.Schema.Columns[0].NotNull {
			s.Schema.Columns[0].Key = m.Intn(2) == 0
		}
	case api.StmtDropTable, api.StmtDropTrigger:
		s.Name = m.name()
	case api.StmtCreateTrigger:
		s.Trigger = m.trigger()
	case api.StmtSelect:
		s.Query = m.query(3)
	case api.StmtChange:
		s.Action = m.action(1 + m.Intn(3))
	}
	return s
}

// places returns all fields and elements of a tree that can be changed.
func places(v reflect.Value) []reflect.Value {
	switch v.Kind() {
	case reflect.Struct:
		var l []reflect.Value
		for i := range v.NumField() {
			l = append(l, places(v.Field(i))...)
		}
		return l
	case reflect.Slice:
		l := []reflect.Value{v}
		for i := range v.Len() {
			l = append(l, places(v.Index(i))...)
		}
		return l
	}
	return []reflect.Value{v}
}

// spoil changes one place of a tree at random, which may leave it well-formed.
func (m maker) spoil(tree any) {
	l := places(reflect.ValueOf(tree).Elem())
	v := l[m.Intn(len(l))]
	for range 50 { // most places are zero fields of literals and columns
		if !v.IsZero() || m.Intn(20) == 0 {
			break
		}
		v = l[m.Intn(len(l))]
	}
	switch v.Kind() {
	case reflect.Bool:
		v.SetBool(!v.Bool())
	case reflect.Int, reflect.Int64:
		v.SetInt([]int64{-1, 0, 1, 2, 3, 4, 5, 6, 7, 8, 9, 10, 11, 12, 13, 14, math.MinInt64, math.MaxInt64}[m.Intn(18)])
	case reflect.String:
		v.SetString([]string{"", "a", "b", "A", "NEW", "OLD", "INSERTED", "SELECT", "\n", "it's", long, long + "z"}[m.Intn(12)])
	case reflect.Slice:
		m.spoilList(v)
	}
}

func (m maker) spoilList(v reflect.Value) {
	switch n := v.Len(); {
	case n == 0:
		v.Set(reflect.MakeSlice(v.Type(), m.Intn(2), 2))
	case m.Intn(2) == 0:
		v.Set(v.Slice(0, m.Intn(n)))
	default:
		for range 1 + m.Intn(8) {
			v.Set(reflect.Append(v, v.Index(m.Intn(n))))
		}
	}
}

// The second reading of P12.1 and P12.2: texts are made of texts, with their spaces, and not of tokens.

// exprText returns the text of e at a place with a least precedence.
func exprText(e api.Expr, least int) string {
	binary := []struct {
		symbol           string
		own, left, right int
	}{
		{}, {"OR", 1, 1, 2}, {"AND", 2, 2, 3}, {"=", 4, 5, 5}, {"<>", 4, 5, 5}, {"<", 4, 5, 5}, {"<=", 4, 5, 5}, {">", 4, 5, 5}, {">=", 4, 5, 5},
		{"+", 5, 5, 6}, {"-", 5, 5, 6}, {"*", 6, 6, 7}, {"/", 6, 6, 7}, {"%", 6, 6, 7},
	}[e.Op]
	own := map[int]int{3: 3, 4: 7, 5: binary.own, 6: 4, 7: 4}[e.Kind]
	if own != 0 && own < least {
		return "(" + exprText(e, 1) + ")"
	}
	switch e.Kind {
	case 1:
		return value.Format(e.Value)
	case 2:
		return strings.TrimPrefix(e.Table+"."+e.Name, ".")
	case 3:
		return "NOT " + exprText(e.Args[0], 3)
	case 4:
		return "- " + exprText(e.Args[0], 7)
	case 5:
		return exprText(e.Args[0], binary.left) + " " + binary.symbol + " " + exprText(e.Args[1], binary.right)
	case 6:
		return exprText(e.Args[0], 5) + map[bool]string{false: " IS NULL", true: " IS NOT NULL"}[e.Not]
	case 7:
		return fmt.Sprintf("%s BETWEEN %s AND %s", exprText(e.Args[0], 5), exprText(e.Args[1], 5), exprText(e.Args[2], 5))
	case 8:
		return "EXISTS (" + queryText(e.Sub[0]) + ")"
	}
	names := map[int]string{9: "COUNT (*)", 10: "SUM (", 11: "MIN (", 12: "MAX ("}
	return "(SELECT " + names[e.Kind] + exprTexts(e.Sub[0].Items) + map[bool]string{true: ")"}[e.Kind > 9] + fromText(e.Sub[0]) + ")"
}

func exprTexts(l []api.Expr) string {
	return texts(l, func(e api.Expr) string { return exprText(e, 1) })
}

// texts returns the results of f with commas.
func texts[T any](l []T, f func(T) string) string {
	var parts []string
	for _, x := range l {
		parts = append(parts, f(x))
	}
	return strings.Join(parts, ", ")
}

func fromText(q api.Query) string { return " FROM " + q.From + whereText(q.Where) }

func whereText(l []api.Expr) string { return optional(" WHERE ", exprTexts(l), "") }

// optional returns a text with what is around it, or nothing if it is empty.
func optional(before, text, after string) string {
	if text == "" {
		return ""
	}
	return before + text + after
}

func queryText(q api.Query) string {
	if q.Star {
		return "SELECT *" + fromText(q)
	}
	return "SELECT " + exprTexts(q.Items) + fromText(q)
}

func setText(s api.Set) string { return s.Column + " = " + exprText(s.Expr, 1) }

func actionText(a api.Action) string {
	switch a.Kind {
	case 1:
		if len(a.Query) > 0 {
			return "INSERT INTO " + a.Table + " " + queryText(a.Query[0])
		}
		return "INSERT INTO " + a.Table + " VALUES " + texts(a.Rows, func(l []api.Expr) string { return "(" + exprTexts(l) + ")" })
	case 2:
		return "UPDATE " + a.Table + " SET " + texts(a.Sets, setText) + whereText(a.Where)
	case 3:
		return "DELETE FROM " + a.Table + whereText(a.Where)
	case 4:
		return "ABORT '" + strings.ReplaceAll(a.Text, "'", "''") + "'"
	}
	return "SET NEW." + setText(a.Sets[0])
}

func rankText(r api.Rank) string {
	return strings.ReplaceAll(fmt.Sprintf("%s.%s FROM %d TO %d", r.Table, r.Column, r.Low, r.High), "-", "- ")
}

func triggerText(t api.Trigger) string {
	s := "CREATE TRIGGER " + t.Name + map[bool]string{true: " BEFORE ", false: " AFTER "}[t.Before]
	s += []string{"", "INSERT", "UPDATE", "DELETE"}[t.Event] + optional(" OF ", strings.Join(t.Of, ", "), "") + " ON " + t.Table
	s += map[bool]string{true: " FOR EACH ROW", false: " FOR EACH STATEMENT"}[t.EachRow]
	s += optional(" PRECEDES ", strings.Join(t.Precedes, ", "), "") + optional(" FOLLOWS ", strings.Join(t.Follows, ", "), "")
	s += optional(" RANK ", texts(t.Rank, rankText), "") + optional(" WHEN (", exprTexts(t.When), ")") + " BEGIN "
	for _, a := range t.Actions {
		s += actionText(a) + "; "
	}
	return s + "END"
}

func columnText(c api.Column) string {
	s := c.Name + []string{"", " INT", " BOOL", " TEXT"}[c.Type]
	switch {
	case c.Key:
		return s + " PRIMARY KEY"
	case c.NotNull:
		return s + " NOT NULL"
	}
	return s
}

func statementText(s api.Statement) string {
	switch s.Kind {
	case 1:
		return "CREATE TABLE " + s.Schema.Name + " (" + texts(s.Schema.Columns, columnText) + ")"
	case 2:
		return "DROP TABLE " + s.Name
	case 3:
		return triggerText(s.Trigger)
	case 4:
		return "DROP TRIGGER " + s.Name
	case 5:
		return queryText(s.Query)
	}
	return actionText(s.Action)
}

// expectTokens checks that a text is as its tokens are, in the order and with the spaces of P12.1.
func expectTokens(t *testing.T, text string) {
	t.Helper()
	if len(text) > api.MaxText {
		return
	}
	l, at, err := token.Tokens(text)
	if err != api.OK {
		t.Fatalf("%q: error %d at %d", text, err, at)
	}
	var parts []string
	for _, x := range l {
		parts = append(parts, token.Text(x))
	}
	end := 0
	for i, part := range parts {
		if i > 0 && !slices.Contains([]string{",", ";", ".", ")"}, part) && !slices.Contains([]string{"(", "."}, parts[i-1]) {
			end++
		}
		if l[i].At != end {
			t.Fatalf("%q: the token %q is at %d, not at %d", text, part, l[i].At, end)
		}
		end += len(part)
	}
	if end != len(text) {
		t.Fatalf("%q has something behind its tokens", text)
	}
}

// expectReading checks a text against the second reading for a tree as it is made, and after each of some changes, which may leave it well-formed.
func expectReading[T any](t *testing.T, m maker, x T, f func(T) (string, bool), valid func(T) bool, reading func(T) string, answers map[bool]int) {
	t.Helper()
	for i := range 3 {
		if i > 0 {
			m.spoil(&x)
		}
		want := ""
		if valid(x) {
			want = reading(x)
		}
		got, ok := f(x)
		if got != want || ok != valid(x) {
			t.Fatalf("%q, %v, want %q for %+v", got, ok, want, x)
		}
		if ok {
			expectTokens(t, got)
		}
		answers[ok]++
	}
}

// P12.1 to P12.3: random trees, whole and changed.
func TestRandomTrees(t *testing.T) {
	m := maker{rand.New(rand.NewSource(1))}
	answers := map[bool]int{}
	reading := func(e api.Expr) string { return exprText(e, 1) }
	for range 4000 {
		expectReading(t, m, m.expr(5), Expr, syntax.ValidExpr, reading, answers)
		expectReading(t, m, m.statement(), Statement, syntax.Valid, statementText, answers)
	}
	if answers[true] < 10000 || answers[false] < 2000 {
		t.Errorf("the answers are %v", answers)
	}
}

// grow returns expressions of one step more around those of l, and l, with one operator of each precedence.
func grow(l []api.Expr) []api.Expr {
	all := slices.Clone(l)
	for _, x := range l {
		all = append(all, not(x), negate(x), isNull(x), isNotNull(x), over(api.ExprSum, one(x)), over(api.ExprExists, api.Query{Star: true, From: "t", Where: list(x)}))
		for _, y := range l {
			for _, op := range []int{api.OpOr, api.OpAnd, api.OpEq, api.OpSub, api.OpMul} {
				all = append(all, join(op, x, y))
			}
		}
	}
	return all
}

// P12.1: no two small trees have the same text, so that the parentheses are enough.
func TestDifferentTexts(t *testing.T) {
	small := grow(list(a))
	l := grow(small)
	for _, x := range small {
		for _, y := range small {
			l = append(l, between(x, y, a), between(a, x, y), between(x, a, not(y)))
		}
	}
	seen := map[string]api.Expr{}
	for _, e := range l {
		text, ok := Expr(e)
		if !ok {
			t.Fatalf("%+v has no text", e)
		}
		if other, twice := seen[text]; twice && !reflect.DeepEqual(other, e) {
			t.Fatalf("%q is the text of %+v and of %+v", text, other, e)
		}
		seen[text] = e
	}
	if len(seen) < 900 {
		t.Errorf("there are only %d texts", len(seen))
	}
}

package parse

import (
	"math/rand"
	"reflect"
	"runtime"
	"slices"
	"strings"
	"testing"

	"triggerstore/api"
	"triggerstore/print"
	"triggerstore/syntax"
	"triggerstore/value"
)

// A maker makes random trees, and writes the tokens of one while it makes it, with parentheses that are not needed, too. Lists can be too long, names can be equal.
type maker struct {
	*rand.Rand
	tokens []string
}

func (m *maker) put(text string) { m.tokens = append(m.tokens, strings.Fields(text)...) }

// chance returns true with a probability in percent.
func (m *maker) chance(percent int) bool { return m.Intn(100) < percent }

// pick writes one of some tokens and returns its index.
func (m *maker) pick(texts ...string) int {
	i := m.Intn(len(texts))
	m.put(texts[i])
	return i
}

// one writes one of the words of a text and returns it.
func (m *maker) one(texts string) string {
	l := strings.Fields(texts)
	return l[m.pick(l...)]
}

func (m *maker) name() string { return m.one("a b c d e f g h t c1 d_ " + long) }

// many returns results of f with commas: mostly few, at most one more than limit.
func many[T any](m *maker, limit int, f func() T) []T {
	l := []T{f()}
	for len(l) <= limit && m.chance(45) {
		m.put(",")
		l = append(l, f())
	}
	return l
}

// maybe returns the result of f behind a keyword, or nothing.
func maybe[T any](m *maker, keyword string, f func() T) []T {
	if m.chance(50) {
		return nil
	}
	m.put(keyword)
	return []T{f()}
}

func (m *maker) names(keyword string) []string {
	if m.chance(60) {
		return nil
	}
	m.put(keyword)
	return many(m, api.MaxList, m.name)
}

func (m *maker) literal() api.Expr {
	v := []api.Value{{}, {Kind: api.Int, Int: m.Int63()}, {Kind: api.Int}, {Kind: api.Bool, Int: int64(m.Intn(2))}, {Kind: api.Text, Text: []string{"it's", "", "(", "NOT", "'"}[m.Intn(5)]}}[m.Intn(5)]
	m.tokens = append(m.tokens, value.Format(v))
	return literal(v)
}

func (m *maker) column() api.Expr {
	if m.chance(50) {
		return api.Expr{Kind: api.ExprColumn, Name: m.name()}
	}
	e := api.Expr{Kind: api.ExprColumn, Table: m.one("t u NEW OLD INSERTED DELETED")}
	m.put(".")
	e.Name = m.name()
	return e
}

func (m *maker) whole(depth int) func() api.Expr {
	return func() api.Expr { return m.expr(1, depth) }
}

// enclosedBy writes parentheses around what f writes.
func enclosedBy[T any](m *maker, f func() T) T {
	m.put("(")
	x := f()
	m.put(")")
	return x
}

// expr makes an expression for a place with a least precedence, as P11.6 lists them.
func (m *maker) expr(least, depth int) api.Expr {
	if m.chance(25) {
		return enclosedBy(m, m.whole(depth))
	}
	if depth <= 0 || m.chance(15) {
		if m.chance(50) {
			return m.literal()
		}
		return m.column()
	}
	kind, op := 3+m.Intn(14), 1+m.Intn(13)
	if kind > api.ExprMax {
		kind = api.ExprBinary
	}
	if kind >= api.ExprExists {
		return m.over(kind, depth-1)
	}
	if own := []int{3, 7, ranks[op], 4, 4}[kind-3]; own < least {
		return enclosedBy(m, func() api.Expr { return m.operation(kind, op, depth-1) })
	}
	return m.operation(kind, op, depth-1)
}

// operation makes an expression with operators.
func (m *maker) operation(kind, op, depth int) api.Expr {
	e := api.Expr{Kind: kind}
	arg := func(least int) { e.Args = append(e.Args, m.expr(least, depth)) }
	switch kind {
	case api.ExprNot:
		m.put("NOT")
		arg(3)
	case api.ExprNegate:
		m.put("-")
		arg(7)
	case api.ExprIsNull:
		arg(5)
		e.Not = m.pick("IS NULL", "IS NOT NULL") == 1
	case api.ExprBetween:
		arg(5)
		m.put("BETWEEN")
		arg(5)
		m.put("AND")
		arg(5)
	case api.ExprBinary:
		e.Op = op
		arg([]int{0, 1, 2, 5, 5, 5, 5, 5, 5, 5, 5, 6, 6, 6}[op])
		m.put(symbols[op])
		arg([]int{0, 2, 3, 5, 5, 5, 5, 5, 5, 6, 6, 7, 7, 7}[op])
	}
	return e
}

func (m *maker) over(kind, depth int) api.Expr {
	var q api.Query
	switch kind {
	case api.ExprExists:
		m.put("EXISTS ( SELECT *")
		q.Star = true
	case api.ExprCount:
		m.put("( SELECT COUNT ( * )")
	default:
		m.put("( SELECT " + []string{"SUM", "MIN", "MAX"}[kind-api.ExprSum])
		q.Items = []api.Expr{enclosedBy(m, m.whole(depth))}
	}
	q = m.from(q, depth)
	m.put(")")
	return over(kind, q)
}

func (m *maker) from(q api.Query, depth int) api.Query {
	m.put("FROM")
	q.From = m.one("t INSERTED DELETED")
	q.Where = maybe(m, "WHERE", m.whole(depth))
	return q
}

func (m *maker) query(depth int) api.Query {
	m.put("SELECT")
	if m.chance(30) {
		m.put("*")
		return m.from(api.Query{Star: true}, depth)
	}
	return m.from(api.Query{Items: many(m, api.MaxList, m.whole(depth))}, depth)
}

func (m *maker) set() api.Set {
	s := api.Set{Column: m.name()}
	m.put("=")
	s.Expr = m.expr(1, 2)
	return s
}

// action makes an action, of which the first three can be statements.
func (m *maker) action(kind int) api.Action {
	x := api.Action{Kind: kind}
	switch kind {
	case api.ActInsert:
		m.put("INSERT INTO")
		x.Table = m.name()
		if m.chance(30) {
			x.Query = []api.Query{m.query(2)}
			break
		}
		m.put("VALUES")
		x.Rows = many(m, api.MaxList, func() []api.Expr {
			return enclosedBy(m, func() []api.Expr { return many(m, api.MaxColumns, m.whole(2)) })
		})
	case api.ActUpdate:
		m.put("UPDATE")
		x.Table = m.name()
		m.put("SET")
		x.Sets = many(m, api.MaxList, m.set)
		x.Where = maybe(m, "WHERE", m.whole(2))
	case api.ActDelete:
		m.put("DELETE FROM")
		x.Table = m.name()
		x.Where = maybe(m, "WHERE", m.whole(2))
	case api.ActAbort:
		x.Text = []string{"no", "it's; END", ""}[m.Intn(3)]
		m.tokens = append(m.tokens, "ABORT", value.Format(api.Value{Kind: api.Text, Text: x.Text}))
	case api.ActSet:
		m.put("SET NEW .")
		x.Sets = []api.Set{m.set()}
	}
	return x
}

func (m *maker) limit() int64 {
	sign, n := int64(1), m.Int63()
	if m.chance(50) {
		m.put("-")
		sign = -1
	}
	if m.chance(20) {
		n = 0
	}
	m.put(value.Format(value.Number(n)))
	return sign * n
}

func (m *maker) rank() api.Rank {
	r := api.Rank{Table: m.name()}
	m.put(".")
	r.Column = m.name()
	m.put("FROM")
	r.Low = m.limit()
	m.put("TO")
	r.High = m.limit()
	return r
}

func (m *maker) trigger() api.Trigger {
	x := api.Trigger{Name: m.name(), Before: m.pick("AFTER", "BEFORE") == 1, Event: 1 + m.pick("INSERT", "UPDATE", "DELETE")}
	if x.Event == api.Update {
		x.Of = m.names("OF")
	}
	m.put("ON")
	x.Table = m.name()
	m.put("FOR EACH")
	x.EachRow = m.pick("STATEMENT", "ROW") == 1
	x.Precedes, x.Follows = m.names("PRECEDES"), m.names("FOLLOWS")
	kinds := []int{api.ActInsert, api.ActUpdate, api.ActDelete, api.ActAbort}
	if x.Before {
		kinds = []int{api.ActAbort, api.ActSet}
	}
	if !x.Before || m.chance(10) {
		x.Rank = maybe(m, "RANK", m.rank)
	}
	x.When = maybe(m, "WHEN (", m.whole(2))
	if len(x.When) > 0 {
		m.put(")")
	}
	m.put("BEGIN")
	for len(x.Actions) == 0 || m.chance(45) {
		x.Actions = append(x.Actions, m.action(kinds[m.Intn(len(kinds))]))
		m.put(";")
	}
	m.put("END")
	return x
}

func (m *maker) newColumn() api.Column {
	x := api.Column{Name: m.name(), Type: 1 + m.pick("INT", "BOOL", "TEXT")}
	switch property := m.Intn(5); {
	case property > 3:
		m.put("PRIMARY KEY")
		x.NotNull, x.Key = true, true
	case property > 1:
		m.put("NOT NULL")
		x.NotNull = true
	}
	return x
}

func (m *maker) statement() api.Statement {
	s := api.Statement{Kind: 1 + m.Intn(6)}
	switch s.Kind {
	case api.StmtCreateTable:
		m.put("CREATE TABLE")
		s.Schema.Name = m.name()
		s.Schema.Columns = enclosedBy(m, func() []api.Column { return many(m, api.MaxColumns, m.newColumn) })
	case api.StmtDropTable:
		m.put("DROP TABLE")
		s.Name = m.name()
	case api.StmtCreateTrigger:
		m.put("CREATE TRIGGER")
		s.Trigger = m.trigger()
	case api.StmtDropTrigger:
		m.put("DROP TRIGGER")
		s.Name = m.name()
	case api.StmtSelect:
		s.Query = m.query(3)
	case api.StmtChange:
		s.Action = m.action(1 + m.Intn(3))
	}
	return s
}

// inRun reports whether a byte is a letter, a digit or an underscore.
func inRun(b byte) bool {
	return b == '_' || '0' <= b && b <= '9' || 'a' <= b|0x20 && b|0x20 <= 'z'
}

// apart reports whether two tokens would be other ones without a space.
func apart(first, second string) bool {
	x, y := first[len(first)-1], second[0]
	return inRun(x) && inRun(y) || x == '\'' && y == '\'' || (x == '<' || x == '>') && (y == '>' || y == '=')
}

// text returns the tokens with spaces, mostly where they are needed.
func (m *maker) text() string {
	var b strings.Builder
	space := func() { b.WriteString([]string{" ", "\t", "\n", "  \n\t"}[m.Intn(4)]) }
	for i, x := range m.tokens {
		if i > 0 && apart(m.tokens[i-1], x) || m.chance(30) {
			space()
		}
		b.WriteString(x)
	}
	if m.chance(30) {
		space()
	}
	return b.String()
}

// counts has how often each error was right.
type counts map[api.Errno]int

// expectMade checks the text of a tree that a maker has made, and the printed one.
func expectMade[T any](t *testing.T, g grammar, m *maker, start string, tree T, f func(string) (T, int, api.Errno), valid func(T) bool, write func(T) (string, bool), n counts) {
	t.Helper()
	text := m.text()
	at, code := answer(g, start, text)
	switch {
	case code == api.OK && valid(tree):
		expectTrees(t, f, parsed[T]{text, tree})
	case code == api.OK:
		code = api.ErrInvalid
		fallthrough
	default:
		expectError(t, f, text, at, code)
	}
	n[code]++
	printed, ok := write(tree)
	if _, code := answer(g, start, printed); ok && code == api.OK {
		expectTrees(t, f, parsed[T]{printed, tree})
	}
}

// P13.1 to P13.4: random trees.
func TestRandomTrees(t *testing.T) {
	g, m, n := newGrammar(), &maker{Rand: rand.New(rand.NewSource(1))}, counts{}
	for i := range 2000 {
		m.tokens = nil
		tree := m.expr(1, i%10)
		expectMade(t, g, m, "expression", tree, Expr, syntax.ValidExpr, print.Expr, n)
		m.tokens = nil
		expectMade(t, g, m, "statement", m.statement(), Statement, syntax.Valid, print.Statement, n)
	}
	if n[api.OK] < 1500 || n[api.ErrInvalid] < 100 || n[api.ErrDepth] < 20 {
		t.Errorf("the answers are %v", n)
	}
}

// spoil replaces, removes or adds a token.
func (m *maker) spoil(words []string) {
	at := m.Intn(len(m.tokens))
	word := words[m.Intn(len(words))]
	switch m.Intn(5) {
	case 0:
		m.tokens = slices.Delete(m.tokens, at, at+1)
	case 1:
		m.tokens[at] = word
	case 2:
		m.tokens = slices.Insert(m.tokens, at, word)
	case 3: // many of those that open a level
		m.tokens = slices.Insert(m.tokens, at, slices.Repeat([]string{[]string{"(", "NOT", "-"}[m.Intn(3)]}, 1+m.Intn(14))...)
	case 4:
		other := m.Intn(len(m.tokens))
		m.tokens[at], m.tokens[other] = m.tokens[other], m.tokens[at]
	}
}

// P13.3: random trees with wrong tokens.
func TestWrongTokens(t *testing.T) {
	g, m, words := newGrammar(), &maker{Rand: rand.New(rand.NewSource(2))}, vocabulary()
	for i := range 2000 {
		m.tokens = nil
		if i%2 == 0 {
			m.expr(1, 3)
			m.spoil(words)
			expectExprAnswer(t, g, m.text())
		} else {
			m.statement()
			m.spoil(words)
			expectStatementAnswer(t, g, m.text())
		}
	}
}

// P13.3, P13.4 and R1: whatever the bytes are, there is an answer, and its offset is in the text.
func TestRandomBytes(t *testing.T) {
	g, m, words := newGrammar(), &maker{Rand: rand.New(rand.NewSource(3))}, vocabulary()
	for range 20000 {
		var b []byte
		for range m.Intn(8) {
			if m.chance(90) {
				b = append(append(b, words[m.Intn(len(words))]...), " '\t\n#"[m.Intn(5)])
			} else {
				b = append(b, byte(m.Intn(256)))
			}
		}
		expectStatementAnswer(t, g, string(b))
		expectExprAnswer(t, g, string(b))
	}
}

// P13.4: texts that are as long as a text can be.
func TestLongTexts(t *testing.T) {
	long := "DELETE FROM t WHERE a" + strings.Repeat(" + a", (api.MaxText-21)/4)
	long += strings.Repeat(" ", api.MaxText-len(long))
	tree, at, code := Statement(long)
	text, ok := print.Statement(tree)
	if at != 0 || code != api.OK || !ok || text != strings.TrimSpace(long) {
		t.Errorf("%d, %d, %q", at, code, text)
	}
	for _, part := range []string{"(", "- ", "NOT ", "a + ", "a AND ", "EXISTS (SELECT * FROM t WHERE ", "(SELECT SUM (", "a BETWEEN "} {
		most := strings.Repeat(part, api.MaxText/len(part))
		at, code := answer(newGrammar(), "expression", most)
		expectError(t, Expr, most, at, code)
		if at > len(most) || code == api.OK {
			t.Errorf("%q: %d, %d", part, at, code)
		}
	}
}

// memory is what a list has, with its spare capacity.
type memory struct{ from, to uintptr }

// lists returns the memory of all lists in a tree.
func lists(v reflect.Value) []memory {
	var l []memory
	switch v.Kind() {
	case reflect.Struct:
		for i := range v.NumField() {
			l = append(l, lists(v.Field(i))...)
		}
	case reflect.Slice:
		if v.Cap() > 0 {
			from := v.Pointer()
			l = append(l, memory{from, from + uintptr(v.Cap())*v.Type().Elem().Size()})
		}
		for i := range v.Len() {
			l = append(l, lists(v.Index(i))...)
		}
	}
	return l
}

// R2: no two lists of results share memory.
func TestNoSharedMemory(t *testing.T) {
	var l []memory
	var trees []any
	for range 2 {
		for _, s := range sentences {
			tree, _, _ := Statement(s)
			trees = append(trees, tree)
			l = append(l, lists(reflect.ValueOf(tree))...)
		}
	}
	slices.SortFunc(l, func(x, y memory) int {
		if x.from < y.from {
			return -1
		}
		return 1
	})
	for i := 1; i < len(l); i++ {
		if l[i].from < l[i-1].to {
			t.Errorf("%x and %x share memory", l[i-1], l[i])
		}
	}
	if len(l) < 100 {
		t.Errorf("there are only %d lists", len(l))
	}
	runtime.KeepAlive(trees)
}

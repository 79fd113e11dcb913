package parse

import (
	"reflect"
	"slices"
	"strings"
	"testing"

	"triggerstore/api"
	"triggerstore/print"
	"triggerstore/syntax"
	"triggerstore/token"
)

// The second reading of P13.1 and P13.3: the grammar as rules, with which a recognizer of all grammars finds out which tokens can follow.

// rules has one rule a line: what is before the colon can be any of the alternatives. What no rule defines is a token: a keyword, a symbol, or its kind.
const rules = `
statement : CREATE TABLE name ( columns ) | CREATE TRIGGER name time event ON name FOR EACH unit precedes follows rank when BEGIN actions END | DROP TABLE name | DROP TRIGGER name | query | change
columns : column | columns , column
column : name type | name type NOT NULL | name type PRIMARY KEY
type : INT | BOOL | TEXT
time : BEFORE | AFTER
event : INSERT | DELETE | UPDATE | UPDATE OF names
names : name | names , name
unit : ROW | STATEMENT
precedes : | PRECEDES names
follows : | FOLLOWS names
rank : | RANK name . name FROM limit TO limit
limit : number | - number
when : | WHEN ( expression )
actions : action ; | actions action ;
action : change | ABORT text | SET NEW . set
change : INSERT INTO name VALUES rows | INSERT INTO name query | UPDATE name SET sets where | DELETE FROM name where
rows : row | rows , row
row : ( items )
items : expression | items , expression
sets : set | sets , set
set : name = expression
query : SELECT * from | SELECT items from
from : FROM source where
source : name | INSERTED | DELETED
where : | WHERE expression
expression : conjunction | expression OR conjunction
conjunction : negation | conjunction AND negation
negation : comparison | NOT negation
comparison : sum | sum compared sum | sum IS NULL | sum IS NOT NULL | sum BETWEEN sum AND sum
compared : = | <> | < | <= | > | >=
sum : product | sum + product | sum - product
product : signed | product * signed | product / signed | product % signed
signed : primary | - signed
primary : NULL | TRUE | FALSE | number | text | name | qualifier . name | ( expression ) | EXISTS ( SELECT * from ) | ( SELECT COUNT ( * ) from ) | ( SELECT aggregate ( expression ) from )
qualifier : name | NEW | OLD | INSERTED | DELETED
aggregate : SUM | MIN | MAX`

// grammar has the alternatives of each symbol that rules define.
type grammar map[string][][]string

func newGrammar() grammar {
	g := grammar{}
	for _, line := range strings.Split(strings.TrimSpace(rules), "\n") {
		left, right, _ := strings.Cut(line, " :")
		for _, alternative := range strings.Split(right, " |") {
			g[left] = append(g[left], strings.Fields(alternative))
		}
	}
	return g
}

// state is a place in an alternative of a symbol, which began before a token with a number.
type state struct {
	left          string
	choice, place int
	from          int
}

// recognizer has the states before each of the tokens that it has been given and behind them.
type recognizer struct {
	grammar grammar
	start   string
	sets    [][]state
}

func recognize(g grammar, start string) *recognizer {
	r := &recognizer{grammar: g, start: start}
	r.add([]state{{left: "", from: 0}})
	return r
}

// next returns the symbol at the place of a state, or "" at its end. The state of no symbol is before the start.
func (r *recognizer) next(s state) string {
	right := []string{r.start}
	if s.left != "" {
		right = r.grammar[s.left][s.choice]
	}
	if s.place == len(right) {
		return ""
	}
	return right[s.place]
}

func moved(s state) state {
	s.place++
	return s
}

// add adds a set that follows from some states.
func (r *recognizer) add(set []state) {
	at := len(r.sets)
	seen := map[state]bool{}
	put := func(s state) {
		if !seen[s] {
			seen[s] = true
			set = append(set, s)
		}
	}
	first := set
	set = nil
	for _, s := range first {
		put(s)
	}
	for i := 0; i < len(set); i++ {
		s := set[i]
		symbol := r.next(s)
		if symbol == "" {
			before := set[:len(set):len(set)]
			if s.from < at {
				before = r.sets[s.from]
			}
			for _, b := range before {
				if s.left != "" && r.next(b) == s.left {
					put(moved(b))
				}
			}
		}
		for choice, right := range r.grammar[symbol] {
			put(state{symbol, choice, 0, at})
			if len(right) == 0 {
				put(moved(s))
			}
		}
	}
	r.sets = append(r.sets, set)
}

// step adds a token, or nothing if it cannot follow.
func (r *recognizer) step(class string) bool {
	var set []state
	for _, s := range r.sets[len(r.sets)-1] {
		if _, rule := r.grammar[class]; !rule && r.next(s) == class {
			set = append(set, moved(s))
		}
	}
	if len(set) > 0 {
		r.add(set)
	}
	return len(set) > 0
}

// back takes the last token back.
func (r *recognizer) back() { r.sets = r.sets[:len(r.sets)-1] }

// whole reports whether the tokens are a text of the start.
func (r *recognizer) whole() bool {
	return slices.Contains(r.sets[len(r.sets)-1], state{place: 1})
}

// class returns what rules call a token.
func class(t api.Token) string {
	switch t.Kind {
	case api.TokenName:
		return "name"
	case api.TokenNumber:
		return "number"
	case api.TokenText:
		return "text"
	}
	return t.Text
}

// The second reading of P13.2: a level is a mark on a stack, "(", "NOT" or "-"; "BETWEEN" is there until its AND, and is no level.

// levels goes through tokens that can follow one another.
type levels struct {
	stack []string
	last  string // the class of the last token
	open  int
}

func (l *levels) push(mark string) {
	l.stack = append(l.stack, mark)
	l.open++
}

// pop takes marks of levels off the stack as long as they are among these.
func (l *levels) pop(marks ...string) {
	for n := len(l.stack); n > 0 && slices.Contains(marks, l.stack[n-1]); n-- {
		l.stack = l.stack[:n-1]
		l.open--
	}
}

// take goes on by one token, and reports whether it has opened a level.
func (l *levels) take(class string) bool {
	open, last := l.open, l.last
	l.last = class
	operand := slices.Contains([]string{"name", "number", "text", "NULL", "TRUE", "FALSE", ")"}, last)
	switch class {
	case "(":
		l.push("(")
	case "NOT":
		if !slices.Contains([]string{"IS", "INT", "BOOL", "TEXT"}, last) {
			l.push("NOT")
		}
	case "-":
		if operand {
			l.pop("-")
		} else if last != "FROM" && last != "TO" {
			l.push("-")
		}
	case "BETWEEN":
		l.pop("-")
		l.stack = append(l.stack, "BETWEEN")
	case "AND":
		l.pop("-")
		if n := len(l.stack); n > 0 && l.stack[n-1] == "BETWEEN" {
			l.stack = l.stack[:n-1]
		} else {
			l.pop("-", "NOT")
		}
	case ")":
		l.pop("-", "NOT")
		n := len(l.stack)
		l.stack, l.open = l.stack[:n-1], l.open-1
	case "OR", ",", ";", "FROM", "WHERE":
		l.pop("-", "NOT")
	case "+", "*", "/", "%", "=", "<>", "<", "<=", ">", ">=", "IS":
		l.pop("-")
	}
	return l.open > open
}

// answer returns the offset and the number of the error that a text has by the second readings. It cannot tell ErrInvalid from OK.
func answer(g grammar, start, s string) (int, api.Errno) {
	tokens, at, code := token.Tokens(s)
	if code != api.OK {
		return at, code
	}
	r, l := recognize(g, start), &levels{}
	for _, t := range tokens {
		if !r.step(class(t)) {
			return t.At, api.ErrSyntax
		}
		if l.take(class(t)) && l.open > api.MaxLevels {
			return t.At, api.ErrDepth
		}
	}
	if !r.whole() {
		return len(s), api.ErrSyntax
	}
	return 0, api.OK
}

// expectAnswer checks a text against the second readings.
func expectAnswer[T any](t *testing.T, g grammar, start, s string, f func(string) (T, int, api.Errno), valid func(T) bool, write func(T) (string, bool)) {
	t.Helper()
	at, code := answer(g, start, s)
	if _, _, got := f(s); code == api.OK && got == api.ErrInvalid {
		code = got
	}
	if code == api.OK {
		expectPrinted(t, s, f, valid, write)
	} else {
		expectError(t, f, s, at, code)
	}
}

// expectPrinted checks that a text is parsed to a well-formed tree, and that what is printed for this is parsed to it, too.
func expectPrinted[T any](t *testing.T, s string, f func(string) (T, int, api.Errno), valid func(T) bool, write func(T) (string, bool)) {
	t.Helper()
	tree, at, code := f(s)
	text, _ := write(tree)
	if at != 0 || code != api.OK || !valid(tree) {
		t.Fatalf("%q: %+v, %d, %d", s, tree, at, code)
	}
	expectTrees(t, f, parsed[T]{text, tree})
}

func expectExprAnswer(t *testing.T, g grammar, s string) {
	t.Helper()
	expectAnswer(t, g, "expression", s, Expr, syntax.ValidExpr, print.Expr)
}

func expectStatementAnswer(t *testing.T, g grammar, s string) {
	t.Helper()
	expectAnswer(t, g, "statement", s, Statement, syntax.Valid, print.Statement)
}

// sentences have each form of the grammar.
var sentences = []string{
	"CREATE TABLE t ( id INT PRIMARY KEY , n BOOL NOT NULL , s TEXT )", "DROP TABLE t", "DROP TRIGGER r",
	"SELECT * FROM t WHERE a", "SELECT a , 1 , NOT NOT b FROM INSERTED WHERE - - b < c OR a AND c", "INSERT INTO t VALUES ( a , 1 ) , ( b )", "INSERT INTO t SELECT a , 1 FROM DELETED WHERE b", "UPDATE t SET a = b , b = a = b WHERE TRUE", "DELETE FROM t WHERE a IS NOT NULL AND b IS NULL",
	"CREATE TRIGGER r AFTER UPDATE OF a , b ON t FOR EACH ROW PRECEDES p , q FOLLOWS f , g RANK u . n FROM - 5 TO 5 WHEN ( NEW . a < 3 ) BEGIN UPDATE u SET n = n - 1 WHERE a ; ABORT 'no' ; INSERT INTO u SELECT * FROM DELETED ; INSERT INTO t VALUES ( 1 ) ; END",
	"CREATE TRIGGER s BEFORE INSERT ON t FOR EACH ROW FOLLOWS a WHEN ( a ) BEGIN SET NEW . a = NEW . b ; ABORT '' ; END", "CREATE TRIGGER g AFTER DELETE ON t FOR EACH STATEMENT RANK u . n FROM 1 TO - 0 BEGIN DELETE FROM u ; END", "CREATE TRIGGER g AFTER UPDATE ON t FOR EACH ROW BEGIN DELETE FROM u ; END",
	"SELECT a BETWEEN b + 1 AND c * - 2 AND a = ( b = c ) , NOT a BETWEEN b AND c OR ( NOT a ) % 2 FROM t", "SELECT EXISTS ( SELECT * FROM t WHERE a OR b ) , ( SELECT COUNT ( * ) FROM t WHERE a ) , ( SELECT SUM ( a + b ) FROM t ) + ( SELECT MIN ( t . a ) FROM DELETED WHERE b ) - ( SELECT MAX ( 1 ) FROM INSERTED ) FROM t",
	"SELECT OLD . a , INSERTED . a / 2 , DELETED . b <= 'x' , TRUE <> FALSE , NULL >= - 1 , a > ( b ) FROM t",
}

// vocabulary has each keyword, each symbol, and a token of each other kind.
func vocabulary() []string {
	l := strings.Fields("( ) , ; . * + - / % = <> <= >= < > a 1 'x'")
	return append(l, strings.Fields("ABORT AFTER AND BEFORE BEGIN BETWEEN BOOL COUNT CREATE DELETE DELETED DROP EACH END EXISTS FALSE FOLLOWS FOR FROM INSERT INSERTED INT INTO IS KEY MAX MIN NEW NOT NULL OF OLD ON OR PRECEDES PRIMARY RANK ROW SELECT SET STATEMENT SUM TABLE TEXT TO TRIGGER TRUE UPDATE VALUES WHEN WHERE")...)
}

// P13.3: every token behind every beginning of the sentences.
func TestEveryNextToken(t *testing.T) {
	g := newGrammar()
	seen := map[string]bool{}
	for _, sentence := range sentences {
		expectTokensParsed(t, sentence)
		words := strings.Fields(sentence)
		for n := range len(words) + 1 {
			start := strings.Join(words[:n], " ")
			if seen[start] {
				continue
			}
			seen[start] = true
			for _, word := range vocabulary() {
				expectStatementAnswer(t, g, start+" "+word)
			}
		}
	}
	if len(seen) < 300 {
		t.Errorf("there are only %d beginnings", len(seen))
	}
}

// expectTokensParsed checks that a sentence is parsed as it is and without spaces beside symbols.
func expectTokensParsed(t *testing.T, sentence string) {
	t.Helper()
	tree, at, code := Statement(sentence)
	dense := sentence
	for _, symbol := range strings.Fields("( ) , ; . * + - / % = <> < >") {
		dense = strings.ReplaceAll(strings.ReplaceAll(dense, " "+symbol+" ", symbol), symbol+" ", symbol)
	}
	again, _, other := Statement(strings.TrimSpace(dense))
	if at != 0 || code != api.OK || other != api.OK || !reflect.DeepEqual(tree, again) {
		t.Errorf("%q: %d, %d, and %d for %q", sentence, at, code, other, dense)
	}
}

// P13.1 and P13.3: every expression, and every beginning of one, of a few tokens, with every token behind it.
func TestEveryShortExpression(t *testing.T) {
	r := recognize(newGrammar(), "expression")
	words := strings.Fields("a 1 NOT - ( ) = AND OR IS NULL BETWEEN + * . NEW EXISTS SELECT SUM FROM")
	wholes := 0
	var extend func(start string, most int)
	extend = func(start string, most int) {
		for _, word := range words {
			text := start + " " + word
			tokens, _, _ := token.Tokens(word)
			if !r.step(class(tokens[0])) {
				expectError(t, Expr, text, len(start)+1, api.ErrSyntax)
				continue
			}
			if r.whole() {
				expectPrinted(t, text, Expr, syntax.ValidExpr, print.Expr)
				wholes++
			} else {
				expectError(t, Expr, text, len(text), api.ErrSyntax)
			}
			if most > 1 {
				extend(text, most-1)
			}
			r.back()
		}
	}
	extend("", 6)
	if wholes < 3000 {
		t.Errorf("there are only %d expressions", wholes)
	}
}

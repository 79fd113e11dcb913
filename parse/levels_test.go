package parse

import (
	"strings"
	"testing"

	"triggerstore/api"
)

// within returns s in n pairs of parentheses.
func within(n int, s string) string {
	return strings.Repeat("(", n) + s + strings.Repeat(")", n)
}

// expectDepth checks that texts have ErrDepth where they have !, which is left out, and that those without it are parsed.
func expectDepth[T any](t *testing.T, f func(string) (T, int, api.Errno), texts ...string) {
	t.Helper()
	for _, text := range texts {
		before, behind, deep := strings.Cut(text, "!")
		if deep {
			expectError(t, f, before+behind, len(before), api.ErrDepth)
		} else if _, at, code := f(text); at != 0 || code != api.OK {
			t.Errorf("%q: %d, %d", text, at, code)
		}
	}
}

// P13.2: each token that opens a level, as the last one that may and as the first one that may not.
func TestOpeningTokens(t *testing.T) {
	const most = api.MaxLevels
	nots, signs := strings.Repeat("NOT ", most), strings.Repeat("- ", most)
	expectDepth(t, Expr,
		within(most, "a"), within(most, "!(a)"), nots+"a", nots+"!NOT a", nots+"!(a)", signs+"a", signs+"!- a", signs+"!(a)", nots+"!- a", within(most, "!NOT a"), within(most, "!- a"),
		within(most, "a - b"), within(most, "a - !- b"), within(most, "a AND !NOT b"), within(most-1, "a - - b"), within(most-1, "a AND NOT b"),
		within(most-1, "EXISTS (SELECT * FROM t)"), within(most, "EXISTS !(SELECT * FROM t)"), within(most-1, "EXISTS (SELECT * FROM t WHERE !(a))"), within(most-1, "EXISTS (SELECT * FROM t WHERE a)"),
		within(most-2, "(SELECT COUNT (*) FROM t)"), within(most-1, "(SELECT COUNT !(*) FROM t)"), within(most, "!(SELECT COUNT (*) FROM t)"), within(most-2, "(SELECT COUNT (*) FROM t WHERE (a))"), within(most-2, "(SELECT COUNT (*) FROM t WHERE (!(a)))"),
		within(most-2, "(SELECT SUM (a) FROM t)"), within(most-1, "(SELECT SUM !(a) FROM t)"), within(most-2, "(SELECT MIN (!(a)) FROM t)"), within(most-2, "(SELECT MAX (!- a) FROM t)"), within(most-2, "(SELECT MAX (a) FROM t WHERE (!NOT a))"),
		strings.Repeat("EXISTS (SELECT * FROM t WHERE ", most)+"a"+strings.Repeat(")", most), strings.Repeat("EXISTS (SELECT * FROM t WHERE ", most)+"EXISTS !(SELECT * FROM t)"+strings.Repeat(")", most),
	)
	expectDepth(t, Statement,
		"INSERT INTO t VALUES ("+within(most-1, "a")+", "+within(most-1, "b")+"), ("+within(most-1, "c")+")", "INSERT INTO t VALUES ("+within(most-1, "!(a)")+")", "INSERT INTO t VALUES (1), (1, "+within(most-1, "!- a")+")",
		"CREATE TRIGGER r AFTER INSERT ON t FOR EACH ROW WHEN ("+within(most-1, "a")+") BEGIN DELETE FROM t WHERE "+within(most, "a")+"; END", "CREATE TRIGGER r AFTER INSERT ON t FOR EACH ROW WHEN ("+within(most-1, "!(a)")+") BEGIN DELETE FROM t; END",
		"CREATE TRIGGER r AFTER INSERT ON t FOR EACH ROW BEGIN DELETE FROM t WHERE "+within(most, "!NOT a")+"; END", "CREATE TRIGGER r BEFORE INSERT ON t FOR EACH ROW BEGIN SET NEW.a = "+within(most, "!(a)")+"; END",
		"SELECT "+within(most, "a")+", "+within(most, "b")+" FROM t WHERE "+within(most, "c"), "SELECT a FROM t WHERE "+within(most, "!(c)"), "UPDATE t SET a = "+within(most, "!(a)"), "UPDATE t SET a = 1 WHERE "+within(most, "!(a)"), "INSERT INTO t SELECT "+within(most, "a")+" FROM t WHERE "+within(most, "!- a"),
		"SELECT "+strings.Repeat("(", most)+"!(", "SELECT "+strings.Repeat("- ", most)+"!-",
	)
}

// P13.2: a level ends with its parenthesis or operand, so that as many as one likes may be beside one another.
func TestEndOfLevels(t *testing.T) {
	const most = api.MaxLevels
	expectDepth(t, Expr,
		strings.Repeat("(a) + ", 50)+"(a)", strings.Repeat("NOT a AND ", 50)+"NOT a", strings.Repeat("NOT a OR ", 50)+"NOT a", strings.Repeat("- a + ", 50)+"- a", strings.Repeat("- a * ", 50)+"- a", strings.Repeat("- a = b AND ", 50)+"a", strings.Repeat("EXISTS (SELECT * FROM t) OR ", 50)+"a", strings.Repeat("(SELECT SUM (a) FROM t) - ", 50)+"a",
		within(most-1, "- a * (b)"), within(most-1, "- a + - b"), within(most-1, "- !(a)"), within(most-1, "- a = (b)"), within(most-1, "- a BETWEEN - b AND - c"), within(most-1, "- a IS NULL AND (b)"),
		within(most-1, "NOT a AND (b)"), within(most-1, "NOT a OR NOT b"), within(most-1, "NOT a = !(b)"), within(most-1, "NOT a + !- b"), within(most-1, "NOT a BETWEEN !(b) AND c"), within(most-1, "NOT a BETWEEN b AND !(c)"), within(most-1, "NOT a BETWEEN b AND c AND (d)"), within(most-1, "NOT a IS NOT NULL AND (b)"), within(most-1, "NOT !NOT a"), within(most-2, "(NOT a) = (b)"),
		within(most-2, "NOT - a AND NOT - b"), within(most-2, "NOT - a = - b"), within(most-2, "NOT - a = (b)"), within(most-2, "NOT - a * - !(b)"),
		within(most-2, "EXISTS (SELECT * FROM t WHERE NOT a) AND (NOT b)"), within(most-2, "(SELECT COUNT (*) FROM t WHERE (a)) + (- b)"), within(most-2, "(SELECT MIN (a) FROM t WHERE - a = (b)) + (- b)"),
	)
	expectDepth(t, Statement,
		"SELECT NOT a, "+within(most, "b")+", - c, "+within(most, "d")+" FROM t WHERE "+within(most, "a"), "SELECT NOT - a FROM t WHERE "+within(most, "a"), "UPDATE t SET a = - 1, b = NOT c, c = "+within(most, "a")+" WHERE "+within(most, "a"), "INSERT INTO t VALUES (- 1, NOT a, "+within(most-1, "a")+")",
		"CREATE TRIGGER r AFTER INSERT ON t FOR EACH ROW WHEN (NOT - a) BEGIN DELETE FROM t WHERE NOT - a; DELETE FROM t WHERE "+within(most, "a")+"; END",
	)
}

// P13.2: NOT in IS NOT NULL and the minus sign in RANK open no level.
func TestTokensWithoutLevels(t *testing.T) {
	const most = api.MaxLevels
	expectDepth(t, Expr, within(most, "a IS NOT NULL"), within(most, "a IS NOT NULL AND b IS NOT NULL"), "a IS NOT NULL OR "+within(most, "a"), "a IS NOT NULL OR "+within(most, "!(a)"))
	expectDepth(t, Statement, "CREATE TRIGGER r AFTER INSERT ON t FOR EACH ROW RANK t.n FROM - 1 TO - 0 WHEN ("+within(most-1, "a")+") BEGIN DELETE FROM t WHERE "+within(most, "a")+"; END",
		"CREATE TABLE t (a INT NOT NULL, b INT NOT NULL, c INT NOT NULL, d INT NOT NULL, e INT NOT NULL, f INT NOT NULL)")
}

// P13.3: ErrDepth is only for a token that can follow, and the first one of all errors counts.
func TestFirstError(t *testing.T) {
	const most = api.MaxLevels
	deep := strings.Repeat("(", most)
	expectSyntax(t, Expr, deep+"a !(b)", deep+"a !NOT b", deep+"a + !NOT b", deep+"a = !NOT b", deep+"a IS !(", deep+"EXISTS !-", deep+"EXISTS !a", deep+"!)", deep+"SELECT", deep+"SELECT COUNT", deep+"SELECT COUNT !*", deep+"a -", deep+"EXISTS", "a !"+deep+"(", "a !b"+deep+"(", strings.Repeat("- ", most)+"!NOT a")
	expectDepth(t, Expr, deep+"!(a b", deep+"!(", deep+"!( + (", deep+"!- NOT a", deep+"!NOT", deep+"!-", deep+"a = b AND !NOT c d")
	expectSyntax(t, Statement, "!"+deep+"(", "DELETE FROM t WHERE a "+"!"+deep+"(", "SELECT !FROM t WHERE "+deep+"(")
	expectDepth(t, Statement, "DELETE FROM t WHERE "+deep+"!( b c", "SELECT "+strings.Repeat("a, ", 20)+deep+"!(", "UPDATE t SET a = 1, a = "+deep+"!(1")
}

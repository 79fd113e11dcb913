package parse

import (
	"reflect"
	"strconv"
	"strings"
	"testing"

	"triggerstore/api"
)

// expectError checks that a text has an error at an offset, and no tree.
func expectError[T any](t *testing.T, f func(string) (T, int, api.Errno), text string, at int, code api.Errno) {
	t.Helper()
	var none T
	if tree, gotAt, got := f(text); !reflect.DeepEqual(tree, none) || gotAt != at || got != code {
		t.Errorf("%q: %+v, %d, %d, want the error %d at %d", text, tree, gotAt, got, code, at)
	}
}

// expectSyntax checks that each text has ErrSyntax where it has !, which is left out; or at its end if it has none.
func expectSyntax[T any](t *testing.T, f func(string) (T, int, api.Errno), texts ...string) {
	t.Helper()
	for _, text := range texts {
		before, behind, _ := strings.Cut(text, "!")
		expectError(t, f, before+behind, len(before), api.ErrSyntax)
	}
}

// P13.3: an expression ends too early, has a token that cannot follow, or has one behind its end.
func TestExprErrors(t *testing.T) {
	expectSyntax(t, Expr,
		"", "  ", "\n", "a +", "a + ", "NOT", "- ", "(", "(a", "(a + b ", "a IS", "a IS NOT ", "a BETWEEN", "a BETWEEN b", "a BETWEEN b AND", "t.", "NEW", "EXISTS", "EXISTS (", "(SELECT", "(SELECT SUM",
		"a !b", "a !)", "!)", "(!)", "a !,", "a !;", "a !1", "1 !a", "a !'b'", "'a' !'b'", "a !NULL", "TRUE !FALSE", "a !NOT b", "a !(b)", "(a) !(b)", "(a) !b",
		"!+ a", "!* a", "!= a", "!AND a", "!OR a", "!IS NULL", "!BETWEEN a AND b", "a + !+ b", "a = != b", "a AND !OR b", "a AND !AND b",
		"a + !NOT b", "a * !NOT b", "a = !NOT b", "- !NOT a", "a BETWEEN !NOT b AND c", "a BETWEEN b AND !NOT c", "a !NOT", "a !NOT NULL",
		"a = b != c", "a < b !IS NULL", "a = b !BETWEEN c AND d", "a IS NULL != b", "a IS NULL !IS NULL", "a IS NULL !BETWEEN b AND c", "a BETWEEN b AND c != d", "a BETWEEN b AND c !IS NULL", "a BETWEEN b AND c !BETWEEN d AND e",
		"a IS NULL !+ b", "a IS NULL !* b", "NOT a IS NULL !+ b", "a IS !b", "a IS NOT !b", "a IS NOT !NOT NULL", "a IS !TRUE", "a AND b = c != d", "NOT a = b != c", "a OR NOT b IS NULL !- c",
		"a BETWEEN b !OR c", "a BETWEEN b != c AND d", "a BETWEEN b !IS NULL AND c", "a BETWEEN b !)", "a BETWEEN b!, c",
		"a.!1", "a.!NEW", "a.b!.c", "NEW !", "NEW !+ 1", "NEW.!(", "1!.a", "'t'!.a", "(t)!.a", "NULL!.a",
		"!SELECT * FROM t", "!COUNT (*)", "!VALUES", "!INT", "!ROW.a", "EXISTS !a", "EXISTS !EXISTS", "EXISTS (!a)", "EXISTS (!(SELECT * FROM t))", "EXISTS (SELECT !a FROM t)", "EXISTS (SELECT !COUNT (*) FROM t)", "EXISTS (SELECT * !WHERE a)", "EXISTS (SELECT * FROM t!, u)", "EXISTS (SELECT * FROM t WHERE !)", "EXISTS (SELECT * FROM t WHERE a !WHERE b)",
		"(SELECT !* FROM t)", "(SELECT !a FROM t)", "(SELECT !(a) FROM t)", "(SELECT !EXISTS)", "(SELECT COUNT !* FROM t)", "(SELECT COUNT (!a) FROM t)", "(SELECT COUNT (!) FROM t)", "(SELECT COUNT (* !* FROM t)", "(SELECT SUM (!*) FROM t)", "(SELECT SUM (a!, b) FROM t)", "(SELECT SUM (!SELECT SUM (a) FROM t) FROM t)", "(SELECT SUM !a FROM t)", "(SELECT MIN (!) FROM t)", "(SELECT MAX (a) !) FROM t)", "(SELECT MAX (a) !+ 1 FROM t)", "(SELECT COUNT (*)!, a FROM t)", "(SELECT COUNT (*) FROM !NEW)", "(SELECT COUNT (*) FROM !(t))", "(SELECT COUNT (*) FROM t !t)", "((SELECT COUNT (*) FROM t)", "(SELECT COUNT (*) FROM t) !)",
		"a > !> b", "a < != b", "a !AFTER",
	)
}

// P13.3: statements.
func TestStatementErrors(t *testing.T) {
	expectSyntax(t, Statement,
		"", " \t\n", "!a", "!1", "!'SELECT'", "!(SELECT * FROM t)", "!TABLE t", "!ABORT 'x'", "!SET NEW.a = 1", "!BEGIN", "!VALUES (1)", "!;", "!NOT a",
		"SELECT a !b FROM t", "SELECT a !t", "SELECT", "SELECT a", "SELECT a,", "SELECT a, !FROM t", "SELECT a FROM", "SELECT !FROM t", "SELECT *!, a FROM t", "SELECT * !a FROM t", "SELECT a, !* FROM t", "SELECT !COUNT (*) FROM t", "SELECT a FROM !1", "SELECT a FROM !NEW", "SELECT a FROM !(t)", "SELECT a FROM !'t'", "SELECT a FROM t!, u", "SELECT a FROM t!.u", "SELECT a FROM t !t", "SELECT a FROM t!;", "SELECT a FROM t !SELECT", "SELECT a FROM t WHERE", "SELECT a FROM t WHERE !WHERE b", "SELECT a FROM t WHERE a !WHERE b", "SELECT a FROM t WHERE a!, b", "SELECT a !WHERE b", "SELECT a!) FROM t", "SELECT (a !FROM t", "SELECT a = b != c FROM t",
		"INSERT", "INSERT !t VALUES (1)", "INSERT INTO !INSERTED VALUES (1)", "INSERT INTO t", "INSERT INTO t !(1)", "INSERT INTO t VALUES", "INSERT INTO t VALUES !1", "INSERT INTO t VALUES (!)", "INSERT INTO t VALUES (1", "INSERT INTO t VALUES (1,!)", "INSERT INTO t VALUES (1 !2)", "INSERT INTO t VALUES (!*)", "INSERT INTO t VALUES (!SELECT COUNT (*) FROM t)", "INSERT INTO t VALUES (1) !(2)", "INSERT INTO t VALUES (1),", "INSERT INTO t VALUES (1), !2", "INSERT INTO t VALUES (1) !WHERE a", "INSERT INTO t VALUES (1) !+ 2", "INSERT INTO t !SET a = 1", "INSERT INTO t SELECT * FROM t!, u", "INSERT INTO t !(SELECT * FROM t)",
		"UPDATE", "UPDATE !DELETED SET a = 1", "UPDATE t", "UPDATE t !a = 1", "UPDATE t SET", "UPDATE t SET t!.a = 1", "UPDATE t SET !NEW.a = 1", "UPDATE t SET a", "UPDATE t SET a !<> 1", "UPDATE t SET a = ", "UPDATE t SET a = 1 !b = 2", "UPDATE t SET a = 1, !WHERE a", "UPDATE t SET a = b = c != d", "UPDATE t SET a = !SELECT", "UPDATE t SET !(a = 1)", "UPDATE t SET a = 1 !FROM t",
		"DELETE", "DELETE !t", "DELETE FROM", "DELETE FROM !WHERE", "DELETE FROM t !a", "DELETE FROM t WHERE", "DELETE FROM t!, u", "DELETE !* FROM t",
		"DROP", "DROP !t", "DROP TABLE", "DROP TABLE !TABLE", "DROP TABLE !1", "DROP TABLE t !u", "DROP TABLE t!, u", "DROP !ROW r", "DROP TRIGGER", "DROP TRIGGER !'r'", "DROP TRIGGER r !ON",
	)
}

// P13.3: the statements that create tables and triggers.
func TestCreateErrors(t *testing.T) {
	expectSyntax(t, Statement,
		"CREATE", "CREATE !t", "CREATE !INT", "CREATE TABLE", "CREATE TABLE !(", "CREATE TABLE t", "CREATE TABLE t !a INT", "CREATE TABLE t (", "CREATE TABLE t (!)", "CREATE TABLE t (a", "CREATE TABLE t (a!)", "CREATE TABLE t (a!, b INT)", "CREATE TABLE t (!(a INT))", "CREATE TABLE t (a !a INT)", "CREATE TABLE t (a !NULL)", "CREATE TABLE t (a !'INT')", "CREATE TABLE t (a INT", "CREATE TABLE t (a INT !INT)", "CREATE TABLE t (a INT,", "CREATE TABLE t (a INT,!)", "CREATE TABLE t (a INT !b INT)", "CREATE TABLE t (a INT) !)", "CREATE TABLE t (a INT)!, u",
		"CREATE TABLE t (a INT !NULL)", "CREATE TABLE t (a INT NOT", "CREATE TABLE t (a INT NOT !NOT NULL)", "CREATE TABLE t (a INT NOT!)", "CREATE TABLE t (a INT PRIMARY", "CREATE TABLE t (a INT PRIMARY!, b INT)", "CREATE TABLE t (a INT !KEY)", "CREATE TABLE t (a INT PRIMARY KEY !NOT NULL)", "CREATE TABLE t (a INT NOT NULL !PRIMARY KEY)", "CREATE TABLE t (a INT NOT NULL !NOT NULL)",
		"CREATE TRIGGER", "CREATE TRIGGER !AFTER", "CREATE TRIGGER r", "CREATE TRIGGER r !ON t", "CREATE TRIGGER r !INSERT", "CREATE TRIGGER r AFTER", "CREATE TRIGGER r AFTER !BEFORE", "CREATE TRIGGER r AFTER !SELECT", "CREATE TRIGGER r AFTER !INSERTED", "CREATE TRIGGER r AFTER INSERT !OF a ON t", "CREATE TRIGGER r AFTER DELETE !OF a ON t", "CREATE TRIGGER r AFTER UPDATE OF", "CREATE TRIGGER r AFTER UPDATE OF !ON t", "CREATE TRIGGER r AFTER UPDATE OF a !b ON t", "CREATE TRIGGER r AFTER UPDATE OF a,!ON t", "CREATE TRIGGER r AFTER UPDATE OF t!.a ON t", "CREATE TRIGGER r AFTER UPDATE !a ON t", "CREATE TRIGGER r AFTER INSERT !, DELETE ON t", "CREATE TRIGGER r AFTER INSERT !t", "CREATE TRIGGER r AFTER INSERT ON !INSERTED",
	)
	expectSyntax(t, Statement, behind("CREATE TRIGGER r AFTER INSERT ON t ",
		"", "!BEGIN", "!EACH", "FOR", "FOR !ROW", "FOR EACH", "FOR EACH !BEGIN", "FOR EACH !TABLE",
	)...)
	expectSyntax(t, Statement, behind("CREATE TRIGGER r AFTER INSERT ON t FOR EACH ROW ",
		"", "!STATEMENT", "!END", "!ABORT 'x'", "PRECEDES", "PRECEDES !BEGIN", "PRECEDES a !b", "PRECEDES a, !FOLLOWS b", "PRECEDES a !PRECEDES b", "FOLLOWS", "FOLLOWS a !PRECEDES b", "FOLLOWS a !FOLLOWS b", "FOLLOWS !1",
		"RANK", "RANK t !FROM 0 TO 1", "RANK t.!1", "RANK !NEW.a", "RANK t.n", "RANK t.n !TO 1", "RANK t.n FROM", "RANK t.n FROM !t", "RANK t.n FROM - ", "RANK t.n FROM - !- 5 TO 1", "RANK t.n FROM !+ 5", "RANK t.n FROM !(5)", "RANK t.n FROM - !(5)", "RANK t.n FROM 1 !+ 1 TO 2", "RANK t.n FROM !NULL", "RANK t.n FROM !'1'", "RANK t.n FROM 1 !2", "RANK t.n FROM 1 TO", "RANK t.n FROM 1 TO !BEGIN", "RANK t.n FROM 1 TO -", "RANK t.n FROM 1 TO 2 !- 1", "RANK t.n FROM 1 TO 2!, u.m", "RANK t.n FROM 1 TO 2 !RANK t.n", "RANK t.n FROM 1 TO 2 !FOLLOWS a", "RANK t.n FROM 1 !AND 2",
		"WHEN", "WHEN !a", "WHEN !NOT (a)", "WHEN !EXISTS", "WHEN (!)", "WHEN (a", "WHEN (a!, b)", "WHEN (!SELECT COUNT (*) FROM t)", "WHEN (a) !AND b", "WHEN (a) !RANK t.n", "WHEN (a) !WHEN (b)", "WHEN (a) !;",
	)...)
	expectSyntax(t, Statement, behind("CREATE TRIGGER r AFTER INSERT ON t FOR EACH ROW BEGIN ",
		"", "!END", "!;", "!BEGIN", "!a", "!SELECT * FROM t; END", "!CREATE TABLE t (a INT); END", "!DROP TABLE t; END", "DELETE FROM t", "DELETE FROM t !END", "DELETE FROM t!, u", "DELETE FROM t;", "DELETE FROM t; !;", "DELETE FROM t; !a", "DELETE FROM t; END!;", "DELETE FROM t; END !END", "DELETE FROM t; !DROP", "DELETE FROM t !DELETE",
		"ABORT", "ABORT !a; END", "ABORT !;", "ABORT !1; END", "ABORT !NULL; END", "ABORT !('a'); END", "ABORT 'a' !'b'; END", "ABORT 'a' !+ 'b'; END",
		"SET", "SET !a = 1; END", "SET !OLD.a = 1; END", "SET NEW !a = 1; END", "SET NEW.!NEW = 1; END", "SET NEW.a", "SET NEW.a !<> 1; END", "SET NEW.a = !; END", "SET NEW.a = 1!, b = 2; END", "SET NEW.a = 1!, NEW.b = 2; END", "SET NEW.a = 1 !WHERE a; END",
		"INSERT INTO t VALUES (1) !END", "INSERT INTO t SELECT * FROM t WHERE a !END", "UPDATE t SET a = 1, !; END",
	)...)
}

// behind returns the texts with a beginning before each.
func behind(start string, texts ...string) []string {
	var l []string
	for _, text := range texts {
		l = append(l, start+text)
	}
	return l
}

// P13.3: an error of the tokens comes before one of the statement, wherever it is.
func TestTokenErrors(t *testing.T) {
	expectSyntax(t, Statement, "!'", "!A", "SELECT !'a FROM t", "SELECT a b !# t", "SELECT a b FROM !1a", "DROP TABLE t !"+long+"z", "SELECT !99999999999999999999 FROM t", "SELECT !01 FROM t", "a a a !\r", strings.Repeat("(", 13)+"!$", "SELECT a FROM t !é")
	expectSyntax(t, Expr, "!'", "a !#", "a b !&", ") !Select", strings.Repeat("(", 20)+"!'")
	full := "DROP TABLE t" + strings.Repeat(" ", api.MaxText-12)
	expectStatements(t, parsed[api.Statement]{full, api.Statement{Kind: api.StmtDropTable, Name: "t"}})
	expectError(t, Statement, full+" ", api.MaxText, api.ErrLimit)
	expectError(t, Statement, strings.Repeat("#", 2*api.MaxText), api.MaxText, api.ErrLimit)
	expectError(t, Expr, "a"+strings.Repeat(" ", api.MaxText), api.MaxText, api.ErrLimit)
	expectError(t, Expr, strings.Repeat(" ", api.MaxText), api.MaxText, api.ErrSyntax)
}

// listed returns n elements with commas, in which # is the number of the element.
func listed(n int, element string) string {
	var l []string
	for i := range n {
		l = append(l, strings.ReplaceAll(element, "#", strconv.Itoa(i)))
	}
	return strings.Join(l, ", ")
}

// P13.3: a tree that is not well-formed is ErrInvalid at 0; one that is just within the limits is not.
func TestInvalid(t *testing.T) {
	const start, end = "CREATE TRIGGER r AFTER INSERT ON t FOR EACH ROW ", " BEGIN DELETE FROM t; END"
	for _, text := range []string{
		"SELECT " + listed(api.MaxList, "a") + " FROM t", "INSERT INTO t SELECT " + listed(api.MaxList, "a") + " FROM t", "INSERT INTO t VALUES " + listed(api.MaxList, "(1)"), "INSERT INTO t VALUES (" + listed(api.MaxColumns, "1") + ")", "UPDATE t SET " + listed(api.MaxList, "a# = 1"), "CREATE TABLE t (" + listed(api.MaxColumns, "a# INT") + ")",
		"CREATE TRIGGER r AFTER UPDATE OF " + listed(api.MaxList, "a#") + " ON t FOR EACH ROW" + end, start + "PRECEDES " + listed(api.MaxList, "a#") + end, start + "FOLLOWS " + listed(api.MaxList, "a#") + end, start + "BEGIN " + strings.Repeat("DELETE FROM t; ", api.MaxActions) + "END",
		start + "PRECEDES a FOLLOWS a" + end, "CREATE TABLE t (t INT)", "CREATE TRIGGER r BEFORE UPDATE ON t FOR EACH ROW BEGIN SET NEW.a = 1; SET NEW.a = 2; END",
	} {
		if _, at, code := Statement(text); at != 0 || code != api.OK {
			t.Errorf("%q: %d, %d", text, at, code)
		}
	}
	for _, text := range []string{
		"SELECT " + listed(api.MaxList+1, "a") + " FROM t", "INSERT INTO t SELECT " + listed(api.MaxList+1, "a") + " FROM t", "INSERT INTO t VALUES " + listed(api.MaxList+1, "(1)"), "INSERT INTO t VALUES (" + listed(api.MaxColumns+1, "1") + ")", "INSERT INTO t VALUES (1), (" + listed(api.MaxColumns+1, "1") + ")", "UPDATE t SET " + listed(api.MaxList+1, "a# = 1"), "CREATE TABLE t (" + listed(api.MaxColumns+1, "a# INT") + ")",
		"CREATE TRIGGER r AFTER UPDATE OF " + listed(api.MaxList+1, "a#") + " ON t FOR EACH ROW" + end, start + "PRECEDES " + listed(api.MaxList+1, "a#") + end, start + "FOLLOWS " + listed(api.MaxList+1, "a#") + end, start + "BEGIN " + strings.Repeat("DELETE FROM t; ", api.MaxActions+1) + "END",
		"UPDATE t SET a = 1, a = 2", "UPDATE t SET a = 1, b = 2, a = 1", "CREATE TABLE t (a INT, a INT)", "CREATE TABLE t (a INT PRIMARY KEY, b INT PRIMARY KEY)", "CREATE TRIGGER r AFTER UPDATE OF a, b, a ON t FOR EACH ROW" + end, start + "PRECEDES a, a" + end, start + "FOLLOWS b, a, b" + end,
		start + "BEGIN SET NEW.a = 1; END", start + "BEGIN DELETE FROM t; SET NEW.a = 1; END", "CREATE TRIGGER r BEFORE INSERT ON t FOR EACH ROW" + end, "CREATE TRIGGER r BEFORE INSERT ON t FOR EACH ROW BEGIN INSERT INTO t VALUES (1); END", "CREATE TRIGGER r BEFORE INSERT ON t FOR EACH ROW BEGIN UPDATE t SET a = 1; END",
		"CREATE TRIGGER r BEFORE DELETE ON t FOR EACH ROW BEGIN SET NEW.a = 1; END", "CREATE TRIGGER r BEFORE INSERT ON t FOR EACH STATEMENT BEGIN SET NEW.a = 1; END", "CREATE TRIGGER r BEFORE INSERT ON t FOR EACH ROW RANK t.a FROM 0 TO 1 BEGIN ABORT 'x'; END",
	} {
		expectError(t, Statement, text, 0, api.ErrInvalid)
		expectError(t, Statement, text+" ?", len(text)+1, api.ErrSyntax)
		expectError(t, Statement, text+" )", len(text)+1, api.ErrSyntax)
	}
}

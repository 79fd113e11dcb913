package token

import (
	"math"
	"math/rand"
	"regexp"
	"slices"
	"strings"
	"testing"

	"triggerstore/api"
)

// keywords has the keywords in the words of chapter 4.
const keywords = `ABORT, AFTER, AND, BEFORE, BEGIN, BETWEEN, BOOL, COUNT, CREATE, DELETE, DELETED, DROP, EACH, END, EXISTS, FALSE, FOLLOWS, FOR, FROM, INSERT, INSERTED, INT, INTO, IS, KEY, MAX, MIN, NEW, NOT, NULL, OF, OLD, ON, OR, PRECEDES, PRIMARY, RANK, ROW, SELECT, SET, STATEMENT, SUM, TABLE, TEXT, TO, TRIGGER, TRUE, UPDATE, VALUES, WHEN, WHERE`

// listed has the symbols in the words of P10.1.
const listed = `( ) , ; . * + - / % = <> <= >= < >`

func word(text string, at int) api.Token {
	return api.Token{Kind: api.TokenWord, Text: text, At: at}
}

func name(text string, at int) api.Token {
	return api.Token{Kind: api.TokenName, Text: text, At: at}
}

func number(text string, at int) api.Token {
	return api.Token{Kind: api.TokenNumber, Text: text, At: at}
}

func words(text string, at int) api.Token {
	return api.Token{Kind: api.TokenText, Text: text, At: at}
}

func sign(text string, at int) api.Token {
	return api.Token{Kind: api.TokenSymbol, Text: text, At: at}
}

// expectTokens checks that s has these tokens.
func expectTokens(t *testing.T, s string, want ...api.Token) {
	t.Helper()
	got, at, code := Tokens(s)
	if !slices.Equal(got, want) || at != 0 || code != api.OK {
		t.Errorf("Tokens(%q) is %v, %d, %d, want %v", s, got, at, code, want)
	}
}

// expectError checks that s has an error at an offset, and nothing else.
func expectError(t *testing.T, s string, wantAt int, want api.Errno) {
	t.Helper()
	got, at, code := Tokens(s)
	if len(got) != 0 || at != wantAt || code != want {
		t.Errorf("Tokens(%q) is %v, %d, %d, want an error %d at %d", s, got, at, code, want, wantAt)
	}
}

// P10.1, P10.2: statements as a user writes them.
func TestStatements(t *testing.T) {
	expectTokens(t, "a<=1", name("a", 0), sign("<=", 1), number("1", 3))
	expectTokens(t, "SELECT id, (SELECT COUNT (*) FROM orders)\n\tFROM stock",
		word("SELECT", 0), name("id", 7), sign(",", 9), sign("(", 11), word("SELECT", 12), word("COUNT", 19), sign("(", 25), sign("*", 26), sign(")", 27),
		word("FROM", 29), name("orders", 34), sign(")", 40), word("FROM", 43), name("stock", 48))
	expectTokens(t, "INSERT INTO stock VALUES (1, 10, 'it''s'), (2, - 5, NULL)",
		word("INSERT", 0), word("INTO", 7), name("stock", 12), word("VALUES", 18), sign("(", 25), number("1", 26), sign(",", 27), number("10", 29), sign(",", 31),
		words("it's", 33), sign(")", 40), sign(",", 41), sign("(", 43), number("2", 44), sign(",", 45), sign("-", 47), number("5", 49), sign(",", 50), word("NULL", 52), sign(")", 56))
	expectTokens(t, "SET NEW.n=NEW.n%7;END",
		word("SET", 0), word("NEW", 4), sign(".", 7), name("n", 8), sign("=", 9), word("NEW", 10), sign(".", 13), name("n", 14), sign("%", 15), number("7", 16), sign(";", 17), word("END", 18))
}

// P10.1: spaces, tabs and line ends, and no other white space, may be between tokens, and need not be.
func TestSpaces(t *testing.T) {
	expectTokens(t, "")
	expectTokens(t, " \t\n\n\t ")
	expectTokens(t, " \ta\n", name("a", 2))
	expectTokens(t, "a\nb\tc d", name("a", 0), name("b", 2), name("c", 4), name("d", 6))
	expectTokens(t, "1'a'b", number("1", 0), words("a", 1), name("b", 4))
	expectTokens(t, "NULL,TRUE", word("NULL", 0), sign(",", 4), word("TRUE", 5))
	for _, s := range []string{"\r", "\v", "\f", "\x00", "\u0085", "\u00a0", "\u2003", "\ufeff"} {
		expectError(t, s, 0, api.ErrSyntax)
		expectError(t, "a "+s+"b", 2, api.ErrSyntax)
	}
}

// P10.1: every keyword is a word, and in small letters a name; in both it is none.
func TestWords(t *testing.T) {
	for _, s := range strings.Split(keywords, ", ") {
		expectTokens(t, s, word(s, 0))
		expectTokens(t, "("+s+")", sign("(", 0), word(s, 1), sign(")", len(s)+1))
		expectTokens(t, strings.ToLower(s), name(strings.ToLower(s), 0))
		for _, near := range []string{s[:1] + strings.ToLower(s[1:]), strings.ToLower(s[:1]) + s[1:], s + "1", s + "_", "_" + s, "1" + s, s + "X", s + s} {
			expectError(t, " "+near+" ", 1, api.ErrSyntax)
		}
	}
	for _, s := range []string{"IN", "A", "SELEC", "INTEGER", "_", "__", strings.Repeat("A", 1000)} {
		expectError(t, s, 0, api.ErrSyntax)
	}
}

// P10.1: names, with the edges of their length.
func TestNames(t *testing.T) {
	for _, s := range []string{"a", "z", "a1_", "a__", "a0", "abcdefghijkl", "a0123456789_"} {
		expectTokens(t, s, name(s, 0))
	}
	for _, s := range []string{"abcdefghijklm", "_a", "aB", "Ab", "a_B", "1a", "0x1", "1e5", "1_0", "9_", strings.Repeat("a", 1000)} {
		expectError(t, s, 0, api.ErrSyntax)
		expectError(t, "a+"+s+"+b", 2, api.ErrSyntax)
	}
	// A letter outside ASCII is in no run, so that the run before it is a token.
	expectError(t, "\u00e4", 0, api.ErrSyntax)
	expectError(t, "a\u00e4", 1, api.ErrSyntax)
	expectError(t, "1\u0661", 1, api.ErrSyntax)
	expectError(t, "a\xff", 1, api.ErrSyntax)
}

// P10.1: numbers, with the edges of their size.
func TestNumbers(t *testing.T) {
	for _, s := range []string{"0", "1", "9", "10", "100", "1234567890", "999999999999999999", "1000000000000000000", "9223372036854775806", "9223372036854775807"} {
		expectTokens(t, s, number(s, 0))
		expectTokens(t, "-"+s, sign("-", 0), number(s, 1))
		expectError(t, "0"+s, 0, api.ErrSyntax)
		expectError(t, "+0"+s, 1, api.ErrSyntax)
	}
	for _, s := range []string{"00", "01", "9223372036854775808", "9223372036854775810", "9999999999999999999", "10000000000000000000", "18446744073709551617", strings.Repeat("9", 1000), strings.Repeat("0", 1000)} {
		expectError(t, s, 0, api.ErrSyntax)
		expectError(t, "1 "+s, 2, api.ErrSyntax)
	}
	expectTokens(t, "1.5", number("1", 0), sign(".", 1), number("5", 2))
	expectTokens(t, "0 0", number("0", 0), number("0", 2))
}

// P10.1: texts, with apostrophes at all places.
func TestTexts(t *testing.T) {
	for _, c := range []struct{ s, want string }{
		{"''", ""},
		{"''''", "'"},
		{"''''''", "''"},
		{"'a'", "a"},
		{"'it''s'", "it's"},
		{"'''a'", "'a"},
		{"'a'''", "a'"},
		{"'a''''b'", "a''b"},
		{"' '", " "},
		{"'a  b '", "a  b "},
		{"'SELECT'", "SELECT"},
		{"'01 <> !\"#$&~'", "01 <> !\"#$&~"},
	} {
		expectTokens(t, c.s, words(c.want, 0))
		expectTokens(t, " "+c.s+"a"+c.s, words(c.want, 1), name("a", 1+len(c.s)), words(c.want, 2+len(c.s)))
	}
	expectTokens(t, "'a' 'b'", words("a", 0), words("b", 4))
	expectTokens(t, "''' '''", words("' '", 0))
	expectTokens(t, "'' ''", words("", 0), words("", 3))
	for _, s := range []string{"'", "'''", "'''''", "'a", "'a''", "'a''b", "'a''''", "'a b; c"} {
		expectError(t, s, 0, api.ErrSyntax)
		expectError(t, "a "+s, 2, api.ErrSyntax)
		expectError(t, "'x' "+s, 4, api.ErrSyntax)
	}
	expectError(t, "it's", 2, api.ErrSyntax)
	expectError(t, "'a'''b'", 6, api.ErrSyntax)
}

// P10.1, P10.2: a text has the bytes of a valid value only, at most MaxBytes of them, where a doubled apostrophe is one.
func TestTextValues(t *testing.T) {
	for b := range 256 {
		if b == '\'' {
			continue
		}
		inside := "x" + string([]byte{byte(b)})
		s := "a '" + inside + "' b"
		if b >= 32 && b <= 126 {
			expectTokens(t, s, name("a", 0), words(inside, 2), name("b", 7))
		} else {
			expectError(t, s, 2, api.ErrSyntax)
		}
	}
	for _, part := range []string{"a", " ", "'"} {
		written := strings.ReplaceAll(part, "'", "''")
		expectTokens(t, "'"+strings.Repeat(written, api.MaxBytes)+"'", words(strings.Repeat(part, api.MaxBytes), 0))
		expectError(t, "; '"+strings.Repeat(written, api.MaxBytes+1)+"'", 2, api.ErrSyntax)
	}
	expectError(t, "'\u00e4'", 0, api.ErrSyntax)
	expectError(t, "'"+strings.Repeat("a", 4000)+"'", 0, api.ErrSyntax)
	// What is wrong behind a text is not looked at when the text is wrong itself, nor is what is wrong inside it an error of its own.
	expectError(t, "'\n' !", 0, api.ErrSyntax)
	expectError(t, "'!' !", 4, api.ErrSyntax)
}

// P10.1: each symbol, and two of them side by side: two characters form one symbol where they can.
func TestSymbols(t *testing.T) {
	all := strings.Fields(listed)
	if !slices.Equal(slices.Sorted(slices.Values(symbols[:])), slices.Sorted(slices.Values(all))) {
		t.Errorf("the symbols are %v", symbols)
	}
	for _, s := range all {
		expectTokens(t, s, sign(s, 0))
		expectTokens(t, "a"+s+"1", name("a", 0), sign(s, 1), number("1", 1+len(s)))
		for _, next := range all {
			expectTokens(t, s+" "+next, sign(s, 0), sign(next, len(s)+1))
			if joined := s + next; joined != "<>" && joined != "<=" && joined != ">=" && !strings.HasPrefix(joined, "<>=") {
				expectTokens(t, joined, sign(s, 0), sign(next, len(s)))
			}
		}
	}
	expectTokens(t, "<>=", sign("<>", 0), sign("=", 2))
	expectTokens(t, "<=>", sign("<=", 0), sign(">", 2))
	expectTokens(t, "<<>>==", sign("<", 0), sign("<>", 1), sign(">=", 3), sign("=", 5))
	expectTokens(t, "--", sign("-", 0), sign("-", 1))
	expectTokens(t, "/*", sign("/", 0), sign("*", 1))
	for _, s := range []string{"!", "\"", "#", "$", "&", ":", "?", "@", "[", "\\", "]", "^", "`", "{", "|", "}", "~", "\x7f"} {
		expectError(t, s, 0, api.ErrSyntax)
		expectError(t, "=="+s, 2, api.ErrSyntax)
	}
	expectError(t, "a!=b", 1, api.ErrSyntax)
}

// P10.2: of several errors, the one that is first in the text.
func TestFirstError(t *testing.T) {
	expectError(t, "a ! 1a", 2, api.ErrSyntax)
	expectError(t, "a 1a !", 2, api.ErrSyntax)
	expectError(t, "a 'b\n' 1a", 2, api.ErrSyntax)
	expectError(t, "a Ab '", 2, api.ErrSyntax)
	expectError(t, "a1!", 2, api.ErrSyntax)
	expectError(t, "'a!' ! '", 5, api.ErrSyntax)
	expectError(t, "?'a", 0, api.ErrSyntax)
}

// P10.2: the length of the text comes before all else.
func TestLimit(t *testing.T) {
	spaces := strings.Repeat(" ", api.MaxText-1)
	expectTokens(t, spaces+" ")
	expectTokens(t, spaces+"a", name("a", api.MaxText-1))
	expectError(t, spaces+"!", api.MaxText-1, api.ErrSyntax)
	expectError(t, spaces+"'", api.MaxText-1, api.ErrSyntax)
	for _, s := range []string{spaces + "  ", spaces + "ab", "!" + spaces + " ", "'" + spaces + " ", spaces + "a!", strings.Repeat("\u00e4", api.MaxText), strings.Repeat("a", 1<<20)} {
		expectError(t, s, api.MaxText, api.ErrLimit)
	}
	many, at, code := Tokens(strings.Repeat(";", api.MaxText))
	if len(many) != api.MaxText || at != 0 || code != api.OK || many[api.MaxText-1] != sign(";", api.MaxText-1) {
		t.Errorf("a text of symbols has %d tokens, %d, %d", len(many), at, code)
	}
}

// P10.3: how tokens of each kind are written, whether or not a text has them.
func TestText(t *testing.T) {
	for _, kind := range []int{api.TokenWord, api.TokenName, api.TokenNumber, api.TokenSymbol} {
		for _, text := range []string{"SELECT", "a", "12", "<>", "", "it's", "\n", "\xff", strings.Repeat("a", 5000)} {
			if got := Text(api.Token{Kind: kind, Text: text, At: 7}); got != text {
				t.Errorf("the Text of %q of kind %d is %q", text, kind, got)
			}
		}
	}
	for _, kind := range []int{0, 6, -1, math.MinInt, math.MaxInt} {
		if got := Text(api.Token{Kind: kind, Text: "a"}); got != "" {
			t.Errorf("the Text of kind %d is %q", kind, got)
		}
	}
	for _, c := range []struct{ text, want string }{
		{"", "''"},
		{"a", "'a'"},
		{"it's", "'it''s'"},
		{"'", "''''"},
		{"''", "''''''"},
		{" ~", "' ~'"},
		{strings.Repeat("'", api.MaxBytes), strings.Repeat("'", 2*api.MaxBytes+2)},
		{strings.Repeat("a", api.MaxBytes+1), "?"},
		{"\n", "?"},
		{"\u00e4", "?"},
		{"a\xff", "?"},
		{"\x7f", "?"},
	} {
		for _, at := range []int{0, 9, -1, math.MaxInt} {
			if got := Text(words(c.text, at)); got != c.want {
				t.Errorf("the Text of the text %q is %q", c.text, got)
			}
		}
	}
}

var (
	runPattern    = regexp.MustCompile(`\A[A-Za-z0-9_]+`)
	namePattern   = regexp.MustCompile(`\A[a-z][a-z0-9_]{0,11}\z`)
	digitsPattern = regexp.MustCompile(`\A(0|[1-9][0-9]{0,18})\z`)
	valuePattern  = regexp.MustCompile(`\A[ -~]{0,64}\z`)
	symbolPattern = regexp.MustCompile(`\A(<>|<=|>=|[(),;.*+/%=<>-])`)
)

// begins returns the token with which s begins and its length, as P10.1 says it, or 0.
func begins(s string) (api.Token, int) {
	if run := runPattern.FindString(s); run != "" {
		switch {
		case slices.Contains(strings.Split(keywords, ", "), run):
			return word(run, 0), len(run)
		case namePattern.MatchString(run):
			return name(run, 0), len(run)
		// Digits of one length are ordered like their numbers.
		case digitsPattern.MatchString(run) && (len(run) < 19 || run <= "9223372036854775807"):
			return number(run, 0), len(run)
		}
		return api.Token{}, 0
	}
	if s[0] == '\'' {
		// A text ends where it has as many apostrophes as make pairs, and no further one follows.
		for end := 2; end <= len(s); end++ {
			if strings.Count(s[:end], "'")%2 == 1 || strings.HasPrefix(s[end:], "'") {
				continue
			}
			if inside := strings.ReplaceAll(s[1:end-1], "''", "'"); valuePattern.MatchString(inside) {
				return words(inside, 0), end
			}
			break
		}
		return api.Token{}, 0
	}
	found := symbolPattern.FindString(s)
	return sign(found, 0), len(found)
}

// expected returns what Tokens returns for a text that is not too long.
func expected(s string) ([]api.Token, int, api.Errno) {
	var l []api.Token
	for at := 0; at < len(s); {
		if strings.IndexByte(" \t\n", s[at]) >= 0 {
			at++
			continue
		}
		found, length := begins(s[at:])
		if length == 0 {
			return nil, at, api.ErrSyntax
		}
		found.At = at
		l = append(l, found)
		at += length
	}
	return l, 0, api.OK
}

// compare checks the tokens of s against the ones expected, and against those of its canonical text.
func compare(t *testing.T, s string) {
	t.Helper()
	want, wantAt, wantCode := expected(s)
	got, at, code := Tokens(s)
	if !slices.Equal(got, want) || at != wantAt || code != wantCode {
		t.Fatalf("Tokens(%q) is %v, %d, %d, want %v, %d, %d", s, got, at, code, want, wantAt, wantCode)
	}
	compareWritten(t, s, got)
}

// compareWritten checks that the Text of each token, with one space between them, has the same tokens at the places where they were written (P10.4).
func compareWritten(t *testing.T, s string, tokens []api.Token) {
	t.Helper()
	var parts []string
	var moved []api.Token
	at := 0
	for _, x := range tokens {
		parts = append(parts, Text(x))
		x.At = at
		moved = append(moved, x)
		at += len(Text(x)) + 1
	}
	written := strings.Join(parts, " ")
	again, offset, code := Tokens(written)
	if !slices.Equal(again, moved) || offset != 0 || code != api.OK {
		t.Fatalf("%q is written %q, which has %v, %d, %d", s, written, again, offset, code)
	}
}

// P10.1, P10.2, P10.4: all bytes alone, in pairs, and between other tokens.
func TestBytes(t *testing.T) {
	for first := range 256 {
		one := string([]byte{byte(first)})
		for _, s := range []string{one, "a" + one, one + "a", "1" + one + "1", "'" + one + "'", "TO" + one + "TO", "<" + one + "=", " " + one + " "} {
			compare(t, s)
		}
		for second := range 256 {
			compare(t, string([]byte{byte(first), byte(second)}))
		}
	}
}

// P10.1, P10.2, P10.4: all short texts of few characters.
func TestShortTexts(t *testing.T) {
	level := []string{""}
	for range 5 {
		var longer []string
		for _, s := range level {
			compare(t, s)
			for _, letter := range "aT0_' <>=!" {
				longer = append(longer, s+string(letter))
			}
		}
		level = longer
	}
	for _, s := range level {
		compare(t, s)
	}
}

// P10.1, P10.2, P10.4: long texts of parts that are tokens, or nearly.
func TestLongTexts(t *testing.T) {
	good := slices.Concat(strings.Split(keywords, ", "), strings.Fields(listed), []string{" ", "\t", "\n", "  ", "a", "stock", "abcdefghijkl", "a1_", "0", "1", "10", "9223372036854775807", "''", "'a'", "'it''s'", "''''", "'<> 1'", "'" + strings.Repeat("~", api.MaxBytes) + "'"})
	bad := []string{"!", "'", "01", "9223372036854775808", "Ab", "_", "\r", "\xc3\xa4", "'\n'", "abcdefghijklm", "'" + strings.Repeat("~", api.MaxBytes+1) + "'"}
	random := rand.New(rand.NewSource(10))
	refused := 0
	for range 20000 {
		var s strings.Builder
		for range random.Intn(30) {
			if random.Intn(60) == 0 {
				s.WriteString(bad[random.Intn(len(bad))])
			} else {
				s.WriteString(good[random.Intn(len(good))])
			}
			if random.Intn(10) > 0 {
				s.WriteByte(' ')
			}
		}
		compare(t, s.String())
		if _, _, code := Tokens(s.String()); code != api.OK {
			refused++
		}
	}
	if refused < 4000 || refused > 16000 {
		t.Errorf("%d texts of 20000 are refused", refused)
	}
}

// R2, R3: a result is new each time.
func TestResultsAreNew(t *testing.T) {
	s := "a + 'b'"
	first, _, _ := Tokens(s)
	second, _, _ := Tokens(s)
	want := slices.Clone(second)
	for i := range first {
		first[i] = api.Token{}
	}
	_ = append(first, api.Token{})
	if !slices.Equal(second, want) {
		t.Errorf("the tokens of %q are %v", s, second)
	}
	expectTokens(t, s, want...)
}

package schema

import (
	"math"
	"regexp"
	"slices"
	"strings"
	"testing"

	"triggerstore/api"
)

// listed has the keywords in the words of chapter 4.
const listed = `ABORT, AFTER, AND, BEFORE, BEGIN, BETWEEN, BOOL, COUNT, CREATE, DELETE, DELETED, DROP, EACH, END, EXISTS, FALSE, FOLLOWS, FOR, FROM, INSERT, INSERTED, INT, INTO, IS, KEY, MAX, MIN, NEW, NOT, NULL, OF, OLD, ON, OR, PRECEDES, PRIMARY, RANK, ROW, SELECT, SET, STATEMENT, SUM, TABLE, TEXT, TO, TRIGGER, TRUE, UPDATE, VALUES, WHEN, WHERE`

var namePattern = regexp.MustCompile(`\A[a-z][a-z0-9_]{0,11}\z`)

// P4.1: names, with the edges of their length.
func TestValidName(t *testing.T) {
	for _, c := range []struct {
		s    string
		want bool
	}{
		{"a1_", true},
		{"1a", false},
		{"A", false},
		{"", false},
		{"stock", true},
		{"a", true},
		{"z", true},
		{"a__", true},
		{"a0123456789_", true},
		{"abcdefghijkl", true},
		{"abcdefghijklm", false},
		{strings.Repeat("a", 1000), false},
		{"_", false},
		{"_a", false},
		{"0", false},
		{"aB", false},
		{"a b", false},
		{" a", false},
		{"a ", false},
		{"a\n", false},
		{"a\x00", false},
		{"a-b", false},
		{"a.b", false},
		{"a\xff", false},
		{"\u00e4", false},
		{"a\u00e4", false},
		{"a\u0661", false},
		{"select", true},
		{"SELECT", false},
	} {
		if got := ValidName(c.s); got != c.want {
			t.Errorf("ValidName(%q) is %v", c.s, got)
		}
	}
}

// P4.1: every byte at the first, the second and the last place of a name.
func TestValidNameBytes(t *testing.T) {
	for first := range 256 {
		one := string([]byte{byte(first)})
		for second := range 256 {
			two := one + string([]byte{byte(second)})
			for _, s := range []string{one, two, one + "bcdefghij" + two[1:] + "l", "abcdefghijk" + two[1:]} {
				if got := ValidName(s); got != namePattern.MatchString(s) {
					t.Fatalf("ValidName(%q) is %v", s, got)
				}
			}
		}
	}
}

// P4.1: the keywords, and texts that differ from a keyword a little.
func TestKeyword(t *testing.T) {
	words := strings.Split(listed, ", ")
	if !slices.Equal(keywords[:], words) {
		t.Errorf("the keywords are %v", keywords)
	}
	for _, word := range words {
		if !Keyword(word) {
			t.Errorf("%s is not a keyword", word)
		}
		near := []string{strings.ToLower(word), word[:1] + strings.ToLower(word[1:]), word + " ", " " + word, word + "\x00", word + "_", word + "1"}
		for cut := range len(word) {
			near = append(near, word[:cut], word[cut+1:])
		}
		for letter := 'A'; letter <= 'Z'; letter++ {
			near = append(near, word+string(letter), string(letter)+word)
		}
		for _, s := range near {
			if got := Keyword(s); got != slices.Contains(words, s) {
				t.Errorf("Keyword(%q) is %v", s, got)
			}
		}
	}
	for _, s := range []string{"", "A", "AS", "BY", "IN", "ASC", "ALL", "ANY", "AVG", "INTEGER", "KEYS", "REFERENCES", "UNION", "ORDER BY", "PRIMARY KEY", "*", "'NULL'", strings.Repeat("WHERE", 1000)} {
		if Keyword(s) {
			t.Errorf("%q is a keyword", s)
		}
	}
}

// P4.1: nothing is both a keyword and a name.
func TestKeywordsAreNoNames(t *testing.T) {
	for _, word := range strings.Split(listed, ", ") {
		if ValidName(word) || !ValidName(strings.ToLower(word)) || Keyword(strings.ToLower(word)) {
			t.Error(word)
		}
	}
}

func column(name string, kind int) api.Column { return api.Column{Name: name, Type: kind} }

func key(name string, kind int) api.Column {
	return api.Column{Name: name, Type: kind, NotNull: true, Key: true}
}

func table(columns ...api.Column) api.Schema {
	return api.Schema{Name: "t", Columns: columns}
}

// columnsNamed returns columns with letters as their names.
func columnsNamed(letters string) []api.Column {
	var l []api.Column
	for _, letter := range letters {
		l = append(l, column(string(letter), api.Int))
	}
	return l
}

// P4.2: which schemas are valid.
func TestValid(t *testing.T) {
	a := column("a", api.Int)
	for _, c := range []struct {
		name string
		s    api.Schema
		want bool
	}{
		{"one column", table(a), true},
		{"all types", table(a, column("b", api.Bool), column("c", api.Text)), true},
		{"not null", table(api.Column{Name: "a", Type: api.Text, NotNull: true}), true},
		{"a key", table(key("a", api.Int)), true},
		{"a key of each type, bool", table(key("a", api.Bool)), true},
		{"a key of each type, text", table(key("a", api.Text)), true},
		{"a key after a column", table(a, key("b", api.Int)), true},
		{"a key before a column", table(key("b", api.Int), a), true},
		{"longest name", api.Schema{Name: "abcdefghijkl", Columns: []api.Column{column("abcdefghijkl", api.Int)}}, true},
		{"table and column with one name", api.Schema{Name: "a", Columns: []api.Column{a}}, true},
		{"names of keywords in small letters", api.Schema{Name: "table", Columns: []api.Column{column("key", api.Int)}}, true},
		{"most columns", table(columnsNamed("abcdef")...), true},
		{"too many columns", table(columnsNamed("abcdefg")...), false},
		{"a thousand columns", table(slices.Repeat([]api.Column{a}, 1000)...), false},
		{"nothing", api.Schema{}, false},
		{"no columns", api.Schema{Name: "t"}, false},
		{"an empty list of columns", api.Schema{Name: "t", Columns: []api.Column{}}, false},
		{"no name", api.Schema{Columns: []api.Column{a}}, false},
		{"name in capitals", api.Schema{Name: "T", Columns: []api.Column{a}}, false},
		{"keyword as name", api.Schema{Name: "TABLE", Columns: []api.Column{a}}, false},
		{"name that is too long", api.Schema{Name: "abcdefghijklm", Columns: []api.Column{a}}, false},
		{"column without a name", table(column("", api.Int)), false},
		{"second column without a name", table(a, column("", api.Int)), false},
		{"column in capitals", table(a, column("B", api.Int)), false},
		{"column with a long name", table(column("abcdefghijklm", api.Int)), false},
		{"equal columns", table(a, a), false},
		{"equal names, different types", table(a, column("a", api.Text)), false},
		{"equal names apart", table(a, column("b", api.Int), column("c", api.Int), a), false},
		{"last two names equal", table(columnsNamed("abcdee")...), false},
		{"no type", table(column("a", api.Null)), false},
		{"second column without a type", table(a, column("b", 0)), false},
		{"type -1", table(column("a", -1)), false},
		{"type 4", table(column("a", 4)), false},
		{"least type", table(column("a", math.MinInt)), false},
		{"greatest type", table(column("a", math.MaxInt)), false},
		{"two keys", table(key("a", api.Int), key("b", api.Int)), false},
		{"two keys apart", table(key("a", api.Int), column("b", api.Int), key("c", api.Text)), false},
		{"a key that can be null", table(api.Column{Name: "a", Type: api.Int, Key: true}), false},
		{"second column a key that can be null", table(a, api.Column{Name: "b", Type: api.Int, Key: true}), false},
	} {
		if got := Valid(c.s); got != c.want {
			t.Errorf("%s: Valid is %v", c.name, got)
		}
	}
}

// conforms says what P4.2 says, sentence by sentence.
func conforms(s api.Schema) bool {
	names, keys := map[string]bool{}, 0
	for _, c := range s.Columns {
		if !namePattern.MatchString(c.Name) || c.Type < api.Int || c.Type > api.Text || c.Key && !c.NotNull {
			return false
		}
		names[c.Name] = true
		if c.Key {
			keys++
		}
	}
	return namePattern.MatchString(s.Name) && len(s.Columns) >= 1 && len(s.Columns) <= 6 && len(names) == len(s.Columns) && keys <= 1
}

// kinds has columns of all sorts, with two names that are valid and one that is not.
func kinds() []api.Column {
	var l []api.Column
	for _, name := range []string{"a", "b", "1"} {
		for _, kind := range []int{api.Null, api.Int, api.Bool, api.Text, 4} {
			for _, notNull := range []bool{false, true} {
				for _, isKey := range []bool{false, true} {
					l = append(l, api.Column{Name: name, Type: kind, NotNull: notNull, Key: isKey})
				}
			}
		}
	}
	return l
}

// P4.2, P4.3: all pairs of columns.
func TestAllPairsOfColumns(t *testing.T) {
	for _, c := range kinds() {
		for _, d := range kinds() {
			s := table(c, d)
			if got := Valid(s); got != conforms(s) {
				t.Errorf("Valid(%v) is %v", s, got)
			}
			wantKey := slices.IndexFunc(s.Columns, func(c api.Column) bool { return c.Key })
			if got := KeyColumn(s); got != wantKey {
				t.Errorf("KeyColumn(%v) is %d", s, got)
			}
			for _, name := range []string{"a", "b", "1", "c", ""} {
				want := slices.IndexFunc(s.Columns, func(c api.Column) bool { return c.Name == name })
				if got := Find(s, name); got != want {
					t.Errorf("Find(%v, %q) is %d", s, name, got)
				}
			}
		}
	}
}

// P4.3: the first column with a name, in schemas that are valid or not.
func TestFind(t *testing.T) {
	s := table(column("a", api.Int), key("k", api.Text), column("A", api.Int), column("a", api.Text), column("", api.Int), column("k", api.Int))
	for _, c := range []struct {
		column string
		want   int
	}{
		{"a", 0}, {"k", 1}, {"A", 2}, {"", 4}, {"b", -1}, {"K", -1}, {"aa", -1}, {"t", -1}, {"a ", -1},
	} {
		if got := Find(s, c.column); got != c.want {
			t.Errorf("Find(%q) is %d, want %d", c.column, got, c.want)
		}
	}
	for _, s := range []api.Schema{{}, {Name: "a"}, table(), table(column("b", api.Int))} {
		if Find(s, "a") != -1 || len(s.Columns) == 0 && Find(s, "") != -1 {
			t.Error(s)
		}
	}
	many := table(columnsNamed("abcdefghijklmnopqrstuvwxyz")...)
	if Find(many, "z") != 25 {
		t.Error("the last of many columns is not found")
	}
}

// P4.3: the first key, in schemas that are valid or not.
func TestKeyColumn(t *testing.T) {
	plain := column("a", api.Int)
	nullable := api.Column{Name: "b", Type: api.Int, Key: true}
	for _, c := range []struct {
		s    api.Schema
		want int
	}{
		{api.Schema{}, -1},
		{table(), -1},
		{table(plain), -1},
		{table(plain, api.Column{Name: "b", Type: api.Int, NotNull: true}), -1},
		{table(key("a", api.Int)), 0},
		{table(plain, key("k", api.Int)), 1},
		{table(plain, nullable), 1},
		{table(plain, key("k", api.Int), key("l", api.Int)), 1},
		{table(nullable, key("k", api.Int)), 0},
		{table(append(columnsNamed("abcdefgh"), api.Column{Key: true})...), 8},
	} {
		if got := KeyColumn(c.s); got != c.want {
			t.Errorf("KeyColumn(%v) is %d, want %d", c.s, got, c.want)
		}
	}
}

// values has valid values of all kinds.
func values() []api.Value {
	return []api.Value{
		{},
		{Kind: api.Int}, {Kind: api.Int, Int: math.MinInt64}, {Kind: api.Int, Int: math.MaxInt64},
		{Kind: api.Bool}, {Kind: api.Bool, Int: 1},
		{Kind: api.Text}, {Kind: api.Text, Text: "a"}, {Kind: api.Text, Text: strings.Repeat("~", api.MaxBytes)},
	}
}

// invalidValues has values that are not valid, of all kinds.
func invalidValues() []api.Value {
	return []api.Value{
		{Int: 1}, {Text: "a"},
		{Kind: api.Int, Int: 1, Text: "1"},
		{Kind: api.Bool, Int: 2}, {Kind: api.Bool, Text: "TRUE"},
		{Kind: api.Text, Int: 1}, {Kind: api.Text, Text: "\n"}, {Kind: api.Text, Text: strings.Repeat("~", api.MaxBytes+1)},
		{Kind: 4}, {Kind: -1}, {Kind: math.MaxInt}, {Kind: math.MinInt},
	}
}

// columnsOfAllTypes has a column for each type, also those that no valid column has.
func columnsOfAllTypes(notNull bool) []api.Column {
	var l []api.Column
	for _, kind := range []int{api.Null, api.Int, api.Bool, api.Text, 4, -1, math.MinInt, math.MaxInt} {
		for _, isKey := range []bool{false, true} {
			l = append(l, api.Column{Name: "a", Type: kind, NotNull: notNull, Key: isKey})
		}
	}
	return l
}

// P4.4: a value fits if it has the column's type, or if it is null and may be.
func TestFits(t *testing.T) {
	for _, notNull := range []bool{false, true} {
		for _, c := range columnsOfAllTypes(notNull) {
			for _, v := range values() {
				want := api.OK
				if v.Kind == api.Null && notNull {
					want = api.ErrNull
				} else if v.Kind != api.Null && v.Kind != c.Type {
					want = api.ErrType
				}
				if got := Fits(c, v); got != want {
					t.Errorf("Fits(%v, %v) is %d, want %d", c, v, got, want)
				}
			}
		}
	}
}

// P4.4: a value that is not valid is that first of all, even where the type or the null is wrong, too.
func TestFitsInvalid(t *testing.T) {
	for _, notNull := range []bool{false, true} {
		for _, c := range columnsOfAllTypes(notNull) {
			for _, v := range invalidValues() {
				if got := Fits(c, v); got != api.ErrInvalid {
					t.Errorf("Fits(%v, %v) is %d", c, v, got)
				}
			}
		}
	}
}

// P4.4: each error once, in the words of the promise. Only NotNull decides about null, not Key.
func TestFitsByHand(t *testing.T) {
	count := api.Column{Name: "n", Type: api.Int, NotNull: true}
	note := api.Column{Name: "note", Type: api.Text}
	for _, c := range []struct {
		c    api.Column
		v    api.Value
		want api.Errno
	}{
		{count, api.Value{Kind: api.Int, Int: 5}, api.OK},
		{count, api.Value{}, api.ErrNull},
		{count, api.Value{Kind: api.Text, Text: "5"}, api.ErrType},
		{count, api.Value{Kind: api.Bool, Int: 1}, api.ErrType},
		{count, api.Value{Int: 5}, api.ErrInvalid},
		{note, api.Value{}, api.OK},
		{note, api.Value{Kind: api.Text}, api.OK},
		{note, api.Value{Kind: api.Int}, api.ErrType},
		{note, api.Value{Kind: api.Text, Text: "\t"}, api.ErrInvalid},
		{api.Column{Name: "k", Type: api.Int, Key: true}, api.Value{}, api.OK},
	} {
		if got := Fits(c.c, c.v); got != c.want {
			t.Errorf("Fits(%v, %v) is %d, want %d", c.c, c.v, got, c.want)
		}
	}
}

// R2: the columns of an argument, with their spare capacity, stay as they are.
func TestArgumentsStay(t *testing.T) {
	whole := append(columnsNamed("abc"), key("k", api.Int), column("x", api.Int))
	before := slices.Clone(whole)
	s := table(whole[:4]...)
	if !Valid(s) || Find(s, "x") != -1 || KeyColumn(s) != 3 {
		t.Error("the schema is not read up to its length")
	}
	if !slices.Equal(whole, before) {
		t.Error("an argument has changed")
	}
}

package value

import (
	"math"
	"slices"
	"strings"
	"testing"

	"triggerstore/api"
)

func text(s string) api.Value { return api.Value{Kind: api.Text, Text: s} }

// P1.1: which values are valid, kind by kind.
func TestValid(t *testing.T) {
	full := strings.Repeat("~", api.MaxBytes)
	for _, c := range []struct {
		name string
		v    api.Value
		want bool
	}{
		{"null", api.Value{}, true},
		{"null with a number", api.Value{Int: 1}, false},
		{"null with a negative number", api.Value{Int: -1}, false},
		{"null with a text", api.Value{Text: "a"}, false},
		{"zero", api.Value{Kind: api.Int}, true},
		{"least number", api.Value{Kind: api.Int, Int: math.MinInt64}, true},
		{"greatest number", api.Value{Kind: api.Int, Int: math.MaxInt64}, true},
		{"number with a text", api.Value{Kind: api.Int, Int: 1, Text: "1"}, false},
		{"false", api.Value{Kind: api.Bool}, true},
		{"true", api.Value{Kind: api.Bool, Int: 1}, true},
		{"truth value 2", api.Value{Kind: api.Bool, Int: 2}, false},
		{"truth value -1", api.Value{Kind: api.Bool, Int: -1}, false},
		{"least truth value", api.Value{Kind: api.Bool, Int: math.MinInt64}, false},
		{"truth value beyond 32 bits", api.Value{Kind: api.Bool, Int: 1 << 32}, false},
		{"true with a text", api.Value{Kind: api.Bool, Int: 1, Text: "TRUE"}, false},
		{"false with a text", api.Value{Kind: api.Bool, Text: "a"}, false},
		{"empty text", text(""), true},
		{"longest text", text(full), true},
		{"text that is too long", text(full + "~"), false},
		{"text with a number", api.Value{Kind: api.Text, Int: 1, Text: "a"}, false},
		{"empty text with a number", api.Value{Kind: api.Text, Int: -1}, false},
		{"short text in runes, long in bytes", text(strings.Repeat("\u00e4", 40)), false},
		{"kind -1", api.Value{Kind: -1}, false},
		{"kind 4", api.Value{Kind: 4}, false},
		{"least kind", api.Value{Kind: math.MinInt}, false},
		{"greatest kind", api.Value{Kind: math.MaxInt}, false},
	} {
		if got := Valid(c.v); got != c.want {
			t.Errorf("%s: Valid is %v", c.name, got)
		}
	}
}

// P1.1: every byte alone, first, in the middle and last, for Valid and Words.
func TestValidBytes(t *testing.T) {
	for b := range 256 {
		c := string([]byte{byte(b)})
		want := b >= 32 && b <= 126
		for _, s := range []string{c, c + "ab", "a" + c + "b", "ab" + c} {
			if got := Valid(text(s)); got != want {
				t.Errorf("Valid of text %q is %v", s, got)
			}
			if _, got := Words(s); got != want {
				t.Errorf("Words of %q reports %v", s, got)
			}
		}
	}
}

// P1.1: Number and Truth.
func TestNumberAndTruth(t *testing.T) {
	for _, n := range []int64{0, 1, -1, 5, math.MinInt64, math.MaxInt64} {
		if got := Number(n); got != (api.Value{Kind: api.Int, Int: n}) {
			t.Errorf("Number(%d) is %v", n, got)
		}
	}
	if got := Truth(false); got != (api.Value{Kind: api.Bool, Int: 0}) {
		t.Errorf("Truth(false) is %v", got)
	}
	if got := Truth(true); got != (api.Value{Kind: api.Bool, Int: 1}) {
		t.Errorf("Truth(true) is %v", got)
	}
}

// P1.1: Words, with no value beside false.
func TestWords(t *testing.T) {
	full := strings.Repeat("x", api.MaxBytes)
	for _, s := range []string{"", " ", "bolts", "it's", "''", "NULL", full} {
		if got, ok := Words(s); !ok || got != text(s) {
			t.Errorf("Words(%q) is %v, %v", s, got, ok)
		}
	}
	for _, s := range []string{full + "x", "\n", "a\x00", "\xff", "\u00e4"} {
		if got, ok := Words(s); ok || got != (api.Value{}) {
			t.Errorf("Words(%q) is %v, %v", s, got, ok)
		}
	}
}

// ascendingValues has values, valid and not, each less than the next: by Kind, then Int, then Text.
func ascendingValues() []api.Value {
	return []api.Value{
		{Kind: math.MinInt, Int: math.MaxInt64, Text: "z"},
		{Kind: -1},
		{Int: math.MinInt64},
		{Int: -1, Text: "z"},
		{},
		{Text: "a"},
		{Int: 1},
		Number(math.MinInt64),
		Number(-1),
		Number(0),
		{Kind: api.Int, Text: "a"},
		Number(1),
		Number(math.MaxInt64),
		Truth(false),
		Truth(true),
		{Kind: api.Bool, Int: 2},
		{Kind: api.Text, Int: -1, Text: "z"},
		text(""),
		text("A"),
		text("B"),
		text("a"),
		text("a "),
		text("aa"),
		text("b"),
		text("\x7f"),
		text("\u00e4"),
		text("\xff"),
		{Kind: api.Text, Int: 1},
		{Kind: 4},
		{Kind: math.MaxInt},
	}
}

// P1.2: Compare is the order of a list that ascends, and Same holds of equal positions only.
func TestCompareAndSame(t *testing.T) {
	values := ascendingValues()
	for i, a := range values {
		for k, b := range values {
			if got := Compare(a, b); got != sign(i-k) {
				t.Errorf("Compare(%v, %v) is %d", a, b, got)
			}
			if got := Same(a, b); got != (i == k) {
				t.Errorf("Same(%v, %v) is %v", a, b, got)
			}
		}
	}
}

// P1.2: texts are compared and found the same by their bytes, not by where they lie.
func TestSameTextElsewhere(t *testing.T) {
	a, b := text("bolts"), text(string([]byte("bolts")))
	if Compare(a, b) != 0 || !Same(a, b) {
		t.Error("equal texts differ")
	}
}

func sign(n int) int {
	switch {
	case n < 0:
		return -1
	case n > 0:
		return 1
	}
	return 0
}

// P1.3: CompareRows is the order of a list of rows that ascends.
func TestCompareRows(t *testing.T) {
	rows := [][]api.Value{
		nil,
		{{Kind: -1}, Number(9), Number(9)},
		{{}},
		{{}, {}},
		{{}, Number(0)},
		{Number(-1), Number(9)},
		{Number(1)},
		{Number(1), {}},
		{Number(1), {}, {}},
		{Number(1), Number(2), text("a")},
		{Number(1), text("a")},
		{Number(1), text("b")},
		{Number(2)},
		{Truth(false)},
		{text(""), {}},
		{text("a")},
		{{Kind: 4}},
	}
	for i, a := range rows {
		for k, b := range rows {
			if got := CompareRows(a, b); got != sign(i-k) {
				t.Errorf("CompareRows(%v, %v) is %d", a, b, got)
			}
		}
	}
}

// P1.3: a nil row and an empty row are the same row, and the least one.
func TestCompareEmptyRows(t *testing.T) {
	for _, a := range [][]api.Value{nil, {}} {
		for _, b := range [][]api.Value{nil, {}} {
			if got := CompareRows(a, b); got != 0 {
				t.Errorf("two empty rows compare as %d", got)
			}
		}
		if CompareRows(a, []api.Value{{Kind: -1}}) != -1 || CompareRows([]api.Value{{Kind: -1}}, a) != 1 {
			t.Error("an empty row is not the least")
		}
	}
}

// P1.3 with R2: the rows and their spare capacity stay as they are and play no part.
func TestCompareRowsKeepsRows(t *testing.T) {
	backing := []api.Value{Number(1), Number(2), Number(3)}
	before := slices.Clone(backing)
	if got := CompareRows(backing[:1], []api.Value{Number(1)}); got != 0 {
		t.Errorf("spare capacity is compared: %d", got)
	}
	if got := CompareRows(backing[:2], backing[:3]); got != -1 {
		t.Errorf("rows that share memory compare as %d", got)
	}
	if !slices.Equal(backing, before) {
		t.Errorf("a row has changed: %v", backing)
	}
}

// P1.4: the text of valid values, and "?" for others.
func TestFormat(t *testing.T) {
	for _, c := range []struct {
		v    api.Value
		want string
	}{
		{api.Value{}, "NULL"},
		{Number(0), "0"},
		{Number(7), "7"},
		{Number(-10), "-10"},
		{Number(1000000), "1000000"},
		{Number(math.MaxInt64), "9223372036854775807"},
		{Number(math.MinInt64), "-9223372036854775808"},
		{Truth(true), "TRUE"},
		{Truth(false), "FALSE"},
		{text(""), "''"},
		{text("bolts"), "'bolts'"},
		{text("it's"), "'it''s'"},
		{text("'"), "''''"},
		{text("''"), "''''''"},
		{text("'a'"), "'''a'''"},
		{text(`a"b\c`), `'a"b\c'`},
		{text(" ~"), "' ~'"},
		{text("NULL"), "'NULL'"},
		{text("?"), "'?'"},
		{text(strings.Repeat("'", api.MaxBytes)), strings.Repeat("'", 2*api.MaxBytes+2)},
		{text(strings.Repeat("'", api.MaxBytes+1)), "?"},
		{text("\t"), "?"},
		{text("\u00e4"), "?"},
		{api.Value{Int: 1}, "?"},
		{api.Value{Text: "a"}, "?"},
		{api.Value{Kind: api.Int, Int: 1, Text: "a"}, "?"},
		{api.Value{Kind: api.Bool, Int: 2}, "?"},
		{api.Value{Kind: api.Bool, Int: -1}, "?"},
		{api.Value{Kind: api.Bool, Int: math.MinInt64}, "?"},
		{api.Value{Kind: api.Bool, Text: "a"}, "?"},
		{api.Value{Kind: api.Text, Int: 1, Text: "a"}, "?"},
		{api.Value{Kind: -1}, "?"},
		{api.Value{Kind: 4}, "?"},
	} {
		if got := Format(c.v); got != c.want {
			t.Errorf("Format(%v) is %q, want %q", c.v, got, c.want)
		}
	}
}

// The examples of the chapter.
func TestExamples(t *testing.T) {
	v, ok := Words("it's")
	if got := Format(v); !ok || got != "'it''s'" {
		t.Errorf("Format(Words(\"it's\")) is %s", got)
	}
	if got := Compare(Number(5), Truth(true)); got != -1 {
		t.Errorf("Compare(Number(5), Truth(true)) is %d", got)
	}
}

// Package value: values and their order. See shared/doc/01-value.md.
package value

import (
	"cmp"
	"slices"
	"strconv"
	"strings"

	"triggerstore/api"
)

// truthNames has the name of a truth value at its number.
var truthNames = [2]string{"FALSE", "TRUE"}

// Valid reports whether v is a null, a number, a truth value or a text in the one form that the store gives it.
func Valid(v api.Value) bool {
	switch v.Kind {
	case api.Null:
		return v.Int == 0 && v.Text == ""
	case api.Int:
		return v.Text == ""
	case api.Bool:
		return (v.Int == 0 || v.Int == 1) && v.Text == ""
	case api.Text:
		return v.Int == 0 && validText(v.Text)
	}
	return false
}

// validText reports whether s is short enough and has only bytes that can be printed. It looks at bytes, not at runes, because a text is limited and compared by its bytes.
func validText(s string) bool {
	if len(s) > api.MaxBytes {
		return false
	}
	for i := range len(s) {
		if s[i] < ' ' || s[i] > '~' {
			return false
		}
	}
	return true
}

// Number returns the value of a number.
func Number(n int64) api.Value {
	return api.Value{Kind: api.Int, Int: n}
}

// Truth returns the value of a truth value.
func Truth(b bool) api.Value {
	v := api.Value{Kind: api.Bool}
	if b {
		v.Int = 1
	}
	return v
}

// Words returns the value of a text, or false if there is no valid one.
func Words(s string) (api.Value, bool) {
	v := api.Value{Kind: api.Text, Text: s}
	if !Valid(v) {
		return api.Value{}, false
	}
	return v, true
}

// Compare orders all values, valid or not: -1, 0 or 1.
func Compare(a, b api.Value) int {
	return cmp.Or(
		cmp.Compare(a.Kind, b.Kind),
		cmp.Compare(a.Int, b.Int),
		strings.Compare(a.Text, b.Text),
	)
}

// Same reports whether a and b are equal in all fields. Null is the same as null here, unlike in a condition.
func Same(a, b api.Value) bool {
	return a == b
}

// CompareRows orders rows by their first values that differ, then by length: -1, 0 or 1.
func CompareRows(a, b []api.Value) int {
	return slices.CompareFunc(a, b, Compare)
}

// Format returns the text of v in a statement, or "?" if v is not valid.
func Format(v api.Value) string {
	if !Valid(v) {
		return "?"
	}
	switch v.Kind {
	case api.Int:
		return strconv.FormatInt(v.Int, 10)
	case api.Bool:
		return truthNames[v.Int]
	case api.Text:
		return "'" + strings.ReplaceAll(v.Text, "'", "''") + "'"
	}
	return "NULL"
}

package logic

import (
	"math"
	"strings"
	"testing"

	"triggerstore/api"
	"triggerstore/value"
)

var (
	no      = value.Truth(false)
	unknown = api.Value{}
	yes     = value.Truth(true)
)

func text(s string) api.Value { return api.Value{Kind: api.Text, Text: s} }

// invalidValues has values of every kind that are not valid.
func invalidValues() []api.Value {
	return []api.Value{
		{Int: 1},
		{Int: -1},
		{Int: math.MinInt64},
		{Text: "a"},
		{Kind: api.Int, Text: "a"},
		{Kind: api.Bool, Int: 2},
		{Kind: api.Bool, Int: -1},
		{Kind: api.Bool, Int: math.MinInt64},
		{Kind: api.Bool, Int: 1 << 32},
		{Kind: api.Bool, Text: "a"},
		{Kind: api.Bool, Int: 1, Text: "TRUE"},
		{Kind: api.Text, Int: 1},
		text("\n"),
		text("\x7f"),
		text(strings.Repeat("a", api.MaxBytes+1)),
		{Kind: -1},
		{Kind: 4},
		{Kind: 4, Int: 1},
		{Kind: math.MinInt},
		{Kind: math.MaxInt},
	}
}

// outsideLogic has values, valid and not, that are not values of the logic.
func outsideLogic() []api.Value {
	return append(invalidValues(),
		value.Number(0),
		value.Number(1),
		value.Number(math.MinInt64),
		text(""),
		text("TRUE"),
	)
}

// P2.1: the values of the logic are the truth values and null, and no others.
func TestValid(t *testing.T) {
	for _, v := range []api.Value{no, unknown, yes} {
		if !Valid(v) {
			t.Errorf("%v is not valid", v)
		}
	}
	for _, v := range outsideLogic() {
		if Valid(v) {
			t.Errorf("%v is valid", v)
		}
	}
}

// P2.1: Not of the three values.
func TestNot(t *testing.T) {
	for _, c := range []struct{ a, want api.Value }{
		{no, yes},
		{yes, no},
		{unknown, unknown},
	} {
		if got, ok := Not(c.a); !ok || got != c.want {
			t.Errorf("Not(%v) is %v, %v", c.a, got, ok)
		}
	}
}

// P2.1: And and Or of all nine pairs.
func TestAndOr(t *testing.T) {
	for _, c := range []struct{ a, b, and, or api.Value }{
		{no, no, no, no},
		{no, unknown, no, unknown},
		{no, yes, no, yes},
		{unknown, no, no, unknown},
		{unknown, unknown, unknown, unknown},
		{unknown, yes, unknown, yes},
		{yes, no, no, yes},
		{yes, unknown, unknown, yes},
		{yes, yes, yes, yes},
	} {
		if got, ok := And(c.a, c.b); !ok || got != c.and {
			t.Errorf("And(%v, %v) is %v, %v", c.a, c.b, got, ok)
		}
		if got, ok := Or(c.a, c.b); !ok || got != c.or {
			t.Errorf("Or(%v, %v) is %v, %v", c.a, c.b, got, ok)
		}
	}
}

// P2.1: an argument outside the logic gives false and no value, on either side, even where the other one would decide.
func TestLogicRefuses(t *testing.T) {
	refused := func(name string, got api.Value, ok bool) {
		if ok || got != (api.Value{}) {
			t.Errorf("%s is %v, %v", name, got, ok)
		}
	}
	for _, bad := range outsideLogic() {
		got, ok := Not(bad)
		refused("Not", got, ok)
		for _, other := range []api.Value{no, unknown, yes, bad} {
			got, ok = And(other, bad)
			refused("And with a bad second argument", got, ok)
			got, ok = And(bad, other)
			refused("And with a bad first argument", got, ok)
			got, ok = Or(other, bad)
			refused("Or with a bad second argument", got, ok)
			got, ok = Or(bad, other)
			refused("Or with a bad first argument", got, ok)
		}
	}
}

// ascendingByKind has lists of valid values of one kind, each value less than the next.
func ascendingByKind() [][]api.Value {
	return [][]api.Value{
		{value.Number(math.MinInt64), value.Number(-1), value.Number(0), value.Number(1), value.Number(math.MaxInt64)},
		{no, yes},
		{text(""), text("B"), text("a"), text("a "), text("aa"), text("b"), text(strings.Repeat("b", api.MaxBytes))},
	}
}

// P2.2: valid values of one kind are compared, bytewise if they are texts.
func TestCompareOneKind(t *testing.T) {
	for _, values := range ascendingByKind() {
		for i, a := range values {
			for k, b := range values {
				if got, ok := Equal(a, b); !ok || got != value.Truth(i == k) {
					t.Errorf("Equal(%v, %v) is %v, %v", a, b, got, ok)
				}
				if got, ok := Less(a, b); !ok || got != value.Truth(i < k) {
					t.Errorf("Less(%v, %v) is %v, %v", a, b, got, ok)
				}
			}
		}
	}
}

// checkBoth checks the result of Equal and Less, which is null or none, for a and b in both orders.
func checkBoth(t *testing.T, a, b api.Value, want bool) {
	t.Helper()
	for _, p := range [][2]api.Value{{a, b}, {b, a}} {
		if got, ok := Equal(p[0], p[1]); ok != want || got != unknown {
			t.Errorf("Equal(%v, %v) is %v, %v", p[0], p[1], got, ok)
		}
		if got, ok := Less(p[0], p[1]); ok != want || got != unknown {
			t.Errorf("Less(%v, %v) is %v, %v", p[0], p[1], got, ok)
		}
	}
}

// P2.2: with a null, a comparison of valid values is null, whatever the other kind.
func TestCompareWithNull(t *testing.T) {
	checkBoth(t, unknown, unknown, true)
	for _, values := range ascendingByKind() {
		for _, v := range values {
			checkBoth(t, unknown, v, true)
		}
	}
}

// P2.2: values of different kinds are not compared, unless one is null.
func TestCompareDifferentKinds(t *testing.T) {
	kinds := ascendingByKind()
	for i, some := range kinds {
		for _, others := range kinds[i+1:] {
			for _, a := range some {
				for _, b := range others {
					checkBoth(t, a, b, false)
				}
			}
		}
	}
}

// P2.2: a value that is not valid is not compared, not even with null or with itself.
func TestCompareInvalid(t *testing.T) {
	for _, bad := range invalidValues() {
		checkBoth(t, bad, bad, false)
		checkBoth(t, bad, unknown, false)
		for _, values := range ascendingByKind() {
			for _, v := range values {
				checkBoth(t, bad, v, false)
			}
		}
	}
}

// P2.3: only the valid true is true.
func TestIsTrue(t *testing.T) {
	if !IsTrue(yes) {
		t.Error("true is not true")
	}
	for _, v := range append(outsideLogic(), no, unknown) {
		if IsTrue(v) {
			t.Errorf("%v is true", v)
		}
	}
}

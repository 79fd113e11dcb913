package tuple

import (
	"math"
	"slices"
	"strings"
	"testing"

	"triggerstore/api"
	"triggerstore/value"
)

func number(n int64) api.Value { return api.Value{Kind: api.Int, Int: n} }

func text(s string) api.Value { return api.Value{Kind: api.Text, Text: s} }

// row returns a row of numbers.
func row(numbers ...int64) []api.Value {
	var l []api.Value
	for _, n := range numbers {
		l = append(l, number(n))
	}
	return l
}

// bag returns a list of rows.
func bag(rows ...[]api.Value) [][]api.Value { return rows }

// equal reports whether two lists have the same rows in the same order; nil and empty lists are equal.
func equal(a, b [][]api.Value) bool {
	return slices.EqualFunc(a, b, slices.Equal[[]api.Value])
}

// deepCopy copies a list with its rows up to their capacities.
func deepCopy(l [][]api.Value) [][]api.Value {
	var c [][]api.Value
	for _, r := range l[:cap(l)] {
		c = append(c, slices.Clone(r[:cap(r)]))
	}
	return c
}

func columns(l ...api.Column) api.Schema { return api.Schema{Name: "t", Columns: l} }

var (
	count = api.Column{Name: "n", Type: api.Int, NotNull: true}
	note  = api.Column{Name: "note", Type: api.Text}
	flag  = api.Column{Name: "flag", Type: api.Bool}
)

// P5.1: rows that fit, and the first error of those that do not.
func TestFits(t *testing.T) {
	yes, invalid := api.Value{Kind: api.Bool, Int: 1}, api.Value{Kind: 9}
	null := api.Value{}
	s := columns(count, note, flag)
	for i, c := range []struct {
		s    api.Schema
		t    []api.Value
		want api.Errno
	}{
		{s, []api.Value{number(1), text("a"), yes}, api.OK},
		{s, []api.Value{number(1), null, null}, api.OK},
		{s, []api.Value{number(math.MinInt64), text(""), {Kind: api.Bool}}, api.OK},
		{s, []api.Value{null, text("a"), yes}, api.ErrNull},
		{s, []api.Value{text("a"), text("a"), yes}, api.ErrType},
		{s, []api.Value{invalid, text("a"), yes}, api.ErrInvalid},
		{s, []api.Value{number(1), number(1), yes}, api.ErrType},
		{s, []api.Value{number(1), text("\n"), yes}, api.ErrInvalid},
		{s, []api.Value{number(1), text("a"), number(1)}, api.ErrType},
		{s, []api.Value{number(1), text("a"), {Kind: api.Bool, Int: 2}}, api.ErrInvalid},
		// Of several errors, the one of the first column is returned, whichever error it is.
		{s, []api.Value{null, number(1), invalid}, api.ErrNull},
		{s, []api.Value{null, invalid, number(1)}, api.ErrNull},
		{s, []api.Value{text("a"), invalid, null}, api.ErrType},
		{s, []api.Value{invalid, number(1), null}, api.ErrInvalid},
		{s, []api.Value{number(1), number(1), invalid}, api.ErrType},
		{s, []api.Value{number(1), invalid, number(1)}, api.ErrInvalid},
		{columns(note, count), []api.Value{number(1), null}, api.ErrType},
		{columns(note, count), []api.Value{text("a"), null}, api.ErrNull},
		// The number of values comes before all columns.
		{s, nil, api.ErrInvalid},
		{s, []api.Value{number(1), text("a")}, api.ErrInvalid},
		{s, []api.Value{number(1), text("a"), yes, null}, api.ErrInvalid},
		{s, []api.Value{null}, api.ErrInvalid},
		{s, []api.Value{null, null, null, null}, api.ErrInvalid},
		{s, []api.Value{text("a"), null}, api.ErrInvalid},
		{s, []api.Value{text("a"), null, null, null}, api.ErrInvalid},
		// Schemas that are not valid.
		{api.Schema{}, nil, api.OK},
		{api.Schema{}, []api.Value{}, api.OK},
		{api.Schema{}, []api.Value{null}, api.ErrInvalid},
		{columns(count, count), []api.Value{number(1), number(2)}, api.OK},
		{columns(api.Column{Type: 9}), []api.Value{null}, api.OK},
		{columns(api.Column{Type: 9}), []api.Value{{Kind: 9}}, api.ErrInvalid},
		{columns(api.Column{Type: 9}), row(9), api.ErrType},
		{columns(slices.Repeat([]api.Column{count}, 9)...), row(1, 2, 3, 4, 5, 6, 7, 8, 9), api.OK},
	} {
		if got := Fits(c.s, c.t); got != c.want {
			t.Errorf("%d: Fits(%v, %v) is %d, want %d", i, c.s, c.t, got, c.want)
		}
	}
}

// P5.2: Sort keeps each row as often as it is there, and orders rows as value.CompareRows does.
func TestSort(t *testing.T) {
	null := api.Value{}
	for i, c := range []struct{ l, want [][]api.Value }{
		{nil, nil},
		{bag(), nil},
		{bag(row(1)), bag(row(1))},
		{bag(nil), bag(nil)},
		{bag(row(2), row(1)), bag(row(1), row(2))},
		{bag(row(1), row(1)), bag(row(1), row(1))},
		{bag(row(2), row(1), row(2), row(1), row(2)), bag(row(1), row(1), row(2), row(2), row(2))},
		{bag(row(1, 5), row(2), row(1), nil, row(1, 4)), bag(nil, row(1), row(1, 4), row(1, 5), row(2))},
		{bag(row(10), row(9), row(-1), row(math.MaxInt64), row(math.MinInt64)), bag(row(math.MinInt64), row(-1), row(9), row(10), row(math.MaxInt64))},
		{
			bag([]api.Value{text("b")}, []api.Value{text("")}, []api.Value{{Kind: api.Bool}}, row(5), []api.Value{null}, []api.Value{text("B")}),
			bag([]api.Value{null}, row(5), []api.Value{{Kind: api.Bool}}, []api.Value{text("")}, []api.Value{text("B")}, []api.Value{text("b")}),
		},
		{
			bag([]api.Value{{Kind: 9}}, []api.Value{{Kind: api.Bool, Int: 2}}, []api.Value{{Text: "x"}}, []api.Value{{Kind: -1}}, []api.Value{null}),
			bag([]api.Value{{Kind: -1}}, []api.Value{null}, []api.Value{{Text: "x"}}, []api.Value{{Kind: api.Bool, Int: 2}}, []api.Value{{Kind: 9}}),
		},
	} {
		if got := Sort(c.l); !equal(got, c.want) {
			t.Errorf("%d: Sort(%v) is %v, want %v", i, c.l, got, c.want)
		}
	}
}

// smallRows has rows of up to two values that are easily confused: two are not valid, and the rows differ in Kind, Int, Text or length alone.
func smallRows() [][]api.Value {
	cells := []api.Value{{}, number(0), number(1), {Kind: api.Int, Text: "a"}, {Kind: api.Bool}, text(""), text("a"), {Kind: 9}}
	rows := bag(nil)
	for _, a := range cells {
		rows = append(rows, []api.Value{a})
		for _, b := range cells {
			rows = append(rows, []api.Value{a, b})
		}
	}
	return rows
}

// noise gives numbers that look random and are the same in every run.
type noise uint32

func (n *noise) below(limit int) int {
	*n = *n*1664525 + 1013904223
	return int(*n>>8) % limit
}

// someBags returns lists of up to eight rows, which are drawn from only a few rows so that many of them repeat.
func someBags(amount int) [][][]api.Value {
	rows := smallRows()
	draw := noise(5)
	var bags [][][]api.Value
	for range amount {
		var l [][]api.Value
		few := 1 + draw.below(4)
		offset := draw.below(len(rows))
		for range draw.below(9) {
			l = append(l, slices.Clone(rows[(offset+draw.below(few))%len(rows)]))
		}
		bags = append(bags, l)
	}
	return bags
}

// timesIn counts a row without the help of the package's order.
func timesIn(l [][]api.Value, r []api.Value) int {
	n := 0
	for _, other := range l {
		if slices.Equal(other, r) {
			n++
		}
	}
	return n
}

// ascends reports whether no row is less than the one before it.
func ascends(l [][]api.Value) bool {
	return slices.IsSortedFunc(l, value.CompareRows)
}

// P5.2: Sort and Count against a count row by row.
func TestSortOfMany(t *testing.T) {
	rows := smallRows()
	for _, l := range someBags(500) {
		sorted := Sort(l)
		if len(sorted) != len(l) || !ascends(sorted) {
			t.Fatalf("Sort(%v) is %v", l, sorted)
		}
		for _, r := range rows {
			want := timesIn(l, r)
			if timesIn(sorted, r) != want {
				t.Fatalf("Sort(%v) is %v", l, sorted)
			}
			if got := Count(l, r); got != want {
				t.Fatalf("Count(%v, %v) is %d", l, r, got)
			}
		}
	}
}

// P5.2: a long list, whose rows are all in order afterwards.
func TestSortOfLongList(t *testing.T) {
	draw := noise(1)
	var l [][]api.Value
	for range 5000 {
		l = append(l, row(int64(draw.below(50)), int64(draw.below(50))))
	}
	sorted := Sort(l)
	if len(sorted) != len(l) || !ascends(sorted) || !SameBag(l, sorted) {
		t.Error("Sort does not order a long list")
	}
	if left := Minus(l, sorted[:4999]); !equal(left, sorted[4999:]) {
		t.Errorf("Minus of all rows but one is %v", left)
	}
}

// P5.2: SameBag asks how often each row is there, not in which order.
func TestSameBag(t *testing.T) {
	null := []api.Value{{}}
	for i, c := range []struct {
		a, b [][]api.Value
		want bool
	}{
		{nil, nil, true},
		{nil, bag(), true},
		{nil, bag(nil), false},
		{bag(nil), bag([]api.Value{}), true},
		{bag(nil), bag(nil, nil), false},
		{bag(row(1)), bag(row(1)), true},
		{bag(row(1)), bag(row(2)), false},
		{bag(row(1)), nil, false},
		{bag(row(1), row(2)), bag(row(2), row(1)), true},
		{bag(row(1, 2)), bag(row(2, 1)), false},
		{bag(row(1, 2)), bag(row(1), row(2)), false},
		{bag(row(1), row(1)), bag(row(1)), false},
		{bag(row(1), row(1), row(2)), bag(row(1), row(2), row(2)), false},
		{bag(row(1), row(2), row(1)), bag(row(2), row(1), row(1)), true},
		{bag(row(1), row(2), row(3)), bag(row(1), row(2)), false},
		{bag(row(1)), bag(row(1, 1)), false},
		{bag(null), bag(null), true},
		{bag(null), bag(nil), false},
		{bag(null), bag(row(0)), false},
		{bag([]api.Value{{Kind: 9}}), bag([]api.Value{{Kind: 9}}), true},
		{bag([]api.Value{{Kind: 9}}), bag([]api.Value{{Kind: 9, Text: "a"}}), false},
		{bag([]api.Value{{Kind: api.Bool, Int: 1}}), bag([]api.Value{{Kind: api.Bool, Int: 2}}), false},
	} {
		if got := SameBag(c.a, c.b); got != c.want {
			t.Errorf("%d: SameBag(%v, %v) is %v", i, c.a, c.b, got)
		}
		if got := SameBag(c.b, c.a); got != c.want {
			t.Errorf("%d: SameBag(%v, %v) is %v", i, c.b, c.a, got)
		}
	}
}

// P5.2: Count, with rows that begin like others and rows that are not there.
func TestCount(t *testing.T) {
	l := bag(row(1), row(2), nil, row(1, 2), row(1), []api.Value{{}}, []api.Value{}, []api.Value{{Kind: 9}}, []api.Value{text("a")})
	for _, c := range []struct {
		t    []api.Value
		want int
	}{
		{row(1), 2},
		{row(2), 1},
		{row(3), 0},
		{row(1, 2), 1},
		{row(2, 1), 0},
		{row(1, 2, 3), 0},
		{nil, 2},
		{[]api.Value{}, 2},
		{[]api.Value{{}}, 1},
		{[]api.Value{{}, {}}, 0},
		{[]api.Value{{Kind: 9}}, 1},
		{[]api.Value{{Kind: 9, Int: 1}}, 0},
		{[]api.Value{text("a")}, 1},
		{[]api.Value{text("A")}, 0},
	} {
		if got := Count(l, c.t); got != c.want {
			t.Errorf("Count of %v is %d, want %d", c.t, got, c.want)
		}
	}
	if Count(nil, nil) != 0 || Count(bag(), row(1)) != 0 {
		t.Error("a row is in an empty list")
	}
}

// P5.3: what is left, row by row.
func TestMinus(t *testing.T) {
	for i, c := range []struct{ a, b, want [][]api.Value }{
		{bag(row(1), row(1), row(2)), bag(row(1), row(3)), bag(row(1), row(2))},
		{nil, nil, nil},
		{nil, bag(row(1)), nil},
		{bag(row(1)), nil, bag(row(1))},
		{bag(row(2), row(1)), bag(), bag(row(1), row(2))},
		{bag(row(1)), bag(row(1)), nil},
		{bag(row(1)), bag(row(1), row(1)), nil},
		{bag(row(1), row(1)), bag(row(1)), bag(row(1))},
		{bag(row(1), row(1), row(1)), bag(row(1)), bag(row(1), row(1))},
		{bag(row(3), row(1), row(2)), bag(row(2)), bag(row(1), row(3))},
		{bag(row(3), row(1), row(2)), bag(row(0), row(4)), bag(row(1), row(2), row(3))},
		{bag(row(3), row(1), row(2)), bag(row(4), row(3), row(0), row(1), row(0)), bag(row(2))},
		{bag(row(1)), bag(row(1, 2)), bag(row(1))},
		{bag(row(1, 2)), bag(row(1)), bag(row(1, 2))},
		{bag(row(1, 2), nil, row(1), nil), bag([]api.Value{}, row(1)), bag(nil, row(1, 2))},
		{bag([]api.Value{{}}), bag(row(0)), bag([]api.Value{{}})},
		{bag([]api.Value{{}}), bag([]api.Value{{}}), nil},
		{bag([]api.Value{{Kind: 9}}, row(1)), bag([]api.Value{{Kind: 9}}), bag(row(1))},
		{bag([]api.Value{{Kind: 9, Int: 1}}), bag([]api.Value{{Kind: 9}}), bag([]api.Value{{Kind: 9, Int: 1}})},
	} {
		if got := Minus(c.a, c.b); !equal(got, c.want) {
			t.Errorf("%d: Minus(%v, %v) is %v, want %v", i, c.a, c.b, got, c.want)
		}
	}
}

// P5.2, P5.3: Minus and SameBag of many pairs of lists against a count row by row.
func TestPairsOfMany(t *testing.T) {
	bags := someBags(600)
	for i, a := range bags {
		// A list is compared with one that shares rows with it, so that something remains and something goes.
		b := append(slices.Clone(bags[(i+1)%len(bags)]), a[:len(a)/2]...)
		left := Minus(a, b)
		if !ascends(left) {
			t.Fatalf("Minus(%v, %v) is %v", a, b, left)
		}
		total, same := 0, len(a) == len(b)
		for _, r := range smallRows() {
			more := timesIn(a, r) - timesIn(b, r)
			total += max(more, 0)
			same = same && more == 0
			if timesIn(left, r) != max(more, 0) {
				t.Fatalf("Minus(%v, %v) is %v", a, b, left)
			}
		}
		if len(left) != total || SameBag(a, b) != same {
			t.Fatalf("Minus(%v, %v) is %v, SameBag %v", a, b, left, SameBag(a, b))
		}
		turned := slices.Clone(a)
		slices.Reverse(turned)
		if !SameBag(a, turned) || len(Minus(a, turned)) != 0 {
			t.Fatalf("%v is not the same in another order", a)
		}
	}
}

// R2: arguments stay as they are, with the spare capacity of the lists and of their rows.
func TestArgumentsStay(t *testing.T) {
	a := append(make([][]api.Value, 0, 8), row(3), row(1, 9)[:1], row(2), row(1), row(7), row(0))[:5]
	b := append(make([][]api.Value, 0, 8), row(2), row(1), row(1), row(8))[:3]
	one := row(1, 9)[:1]
	columnList := []api.Column{count, note}[:1]
	a0, b0 := deepCopy(a), deepCopy(b)
	if got := Sort(a); !equal(got, bag(row(1), row(1), row(2), row(3), row(7))) {
		t.Errorf("Sort is %v", got)
	}
	if got := Minus(a, b); !equal(got, bag(row(3), row(7))) {
		t.Errorf("Minus is %v", got)
	}
	if SameBag(a, b) || Count(a, one) != 2 || Fits(columns(columnList...), one) != api.OK {
		t.Error("the arguments are not read up to their lengths")
	}
	if !equal(deepCopy(a), a0) || !equal(deepCopy(b), b0) || one[:2][1] != number(9) || columnList[:2][1] != note {
		t.Error("an argument has changed")
	}
}

// overwrite changes every value of a list, also in the spare capacity of the list and of its rows, and the rows themselves.
func overwrite(l [][]api.Value) {
	for i, r := range l {
		for j := range r[:cap(r)] {
			r[:cap(r)][j] = text("overwritten")
		}
		l[i] = append(r, text("more"))
	}
	for i := range l[:cap(l)] {
		l[:cap(l)][i] = row(99)
	}
}

// R2: results share no memory with arguments, and the rows of a result none with each other.
func TestResultsAreNew(t *testing.T) {
	shared := row(1, 2)
	for _, f := range []func(a [][]api.Value) [][]api.Value{
		Sort,
		func(a [][]api.Value) [][]api.Value { return Minus(a, nil) },
		func(a [][]api.Value) [][]api.Value { return Minus(a, bag(row(1, 2))) },
	} {
		// The same memory is a row of the argument several times.
		a := append(make([][]api.Value, 0, 8), shared, shared, row(3)[:0], shared[:1], row(1), shared)
		before := deepCopy(a)
		result := f(a)
		want := deepCopy(result)
		for i := range result {
			for j := range result[i] {
				saved := result[i][j]
				result[i][j] = text("overwritten")
				for k := range result {
					if k != i && !slices.Equal(result[k], want[k][:len(result[k])]) {
						t.Error("two rows of a result share memory")
					}
				}
				result[i][j] = saved
			}
		}
		overwrite(result)
		if !equal(deepCopy(a), before) {
			t.Error("a result shares memory with an argument")
		}
		overwrite(f(a[:0]))
		if !equal(deepCopy(a), before) {
			t.Error("an empty result shares memory with an argument")
		}
	}
}

// R2: a result is not changed by a later change of the arguments.
func TestArgumentsAreNotKept(t *testing.T) {
	a, b := bag(row(2), row(1)), bag(row(2))
	sorted, left := Sort(a), Minus(a, b)
	overwrite(a)
	overwrite(b)
	if !equal(sorted, bag(row(1), row(2))) || !equal(left, bag(row(1))) {
		t.Errorf("Sort is %v, Minus %v after the arguments have changed", sorted, left)
	}
}

// P5.2, R3: texts that are equal bytewise are equal, wherever they come from.
func TestTextsOfOtherMemory(t *testing.T) {
	long := strings.Repeat("x", api.MaxBytes)
	other := strings.Clone(long)
	a, b := bag([]api.Value{text(long)}), bag([]api.Value{text(other)})
	if !SameBag(a, b) || Count(a, b[0]) != 1 || len(Minus(a, b)) != 0 {
		t.Error("equal texts differ")
	}
}

package arith

import (
	"math"
	"math/big"
	"slices"
	"testing"
)

const (
	least = math.MinInt64
	most  = math.MaxInt64
)

// edges has numbers near zero, near the roots of the greatest product, near every power of two, and near the limits, with both signs.
func edges() []int64 {
	l := []int64{least, least + 1, least + 2, most, most - 1}
	for shift := range 63 {
		for near := int64(-2); near <= 2; near++ {
			n := int64(1)<<shift + near
			l = append(l, n, -n)
		}
	}
	for _, n := range []int64{3, 5, 7, 10, 100, 3037000498, 3037000499, 3037000500, 3037000501, most / 3, most/3 + 1, most / 7} {
		l = append(l, n, -n)
	}
	slices.Sort(l)
	return slices.Compact(l)
}

// exactly returns the number of 64 bits that n is, or 0 and false.
func exactly(n *big.Int) (int64, bool) {
	if !n.IsInt64() {
		return 0, false
	}
	return n.Int64(), true
}

// checkPairs compares an operation with the exact one, for all pairs of edges.
func checkPairs(t *testing.T, name string, operation func(a, b int64) (int64, bool), exact func(z, x, y *big.Int) *big.Int) {
	t.Helper()
	l := edges()
	for _, a := range l {
		for _, b := range l {
			got, ok := operation(a, b)
			want, is := exactly(exact(new(big.Int), big.NewInt(a), big.NewInt(b)))
			if got != want || ok != is {
				t.Errorf("%s(%d, %d) is %d, %v, want %d, %v", name, a, b, got, ok, want, is)
			}
		}
	}
}

// pair is a call with two arguments and what it returns.
type pair struct {
	a, b, want int64
	ok         bool
}

func checkTable(t *testing.T, name string, operation func(a, b int64) (int64, bool), table []pair) {
	t.Helper()
	for _, c := range table {
		if got, ok := operation(c.a, c.b); got != c.want || ok != c.ok {
			t.Errorf("%s(%d, %d) is %d, %v, want %d, %v", name, c.a, c.b, got, ok, c.want, c.ok)
		}
	}
}

// P3.1: Add, with both limits.
func TestAdd(t *testing.T) {
	checkTable(t, "Add", Add, []pair{
		{2, 3, 5, true},
		{2, -3, -1, true},
		{0, 0, 0, true},
		{most, 0, most, true},
		{least, 0, least, true},
		{most - 1, 1, most, true},
		{least + 1, -1, least, true},
		{most, least, -1, true},
		{most, 1, 0, false},
		{1, most, 0, false},
		{least, -1, 0, false},
		{-1, least, 0, false},
		{most, most, 0, false},
		{least, least, 0, false},
	})
	checkPairs(t, "Add", Add, (*big.Int).Add)
}

// P3.1: Subtract, with both limits and the least number, which has no opposite.
func TestSubtract(t *testing.T) {
	checkTable(t, "Subtract", Subtract, []pair{
		{2, 3, -1, true},
		{2, -3, 5, true},
		{0, 0, 0, true},
		{least, 0, least, true},
		{least, least, 0, true},
		{-1, least, most, true},
		{-1, most, least, true},
		{0, most, -most, true},
		{0, least, 0, false},
		{-2, most, 0, false},
		{least, 1, 0, false},
		{most, -1, 0, false},
		{most, least, 0, false},
		{least, most, 0, false},
	})
	checkPairs(t, "Subtract", Subtract, (*big.Int).Sub)
}

// P3.1: Multiply, with both limits, and with the least number and -1 in both places.
func TestMultiply(t *testing.T) {
	checkTable(t, "Multiply", Multiply, []pair{
		{2, 3, 6, true},
		{2, -3, -6, true},
		{-2, -3, 6, true},
		{0, least, 0, true},
		{least, 0, 0, true},
		{1, least, least, true},
		{least, 1, least, true},
		{most, -1, -most, true},
		{-1, most, -most, true},
		{least / 2, 2, least, true},
		{-1 << 32, 1 << 31, least, true},
		{least, -1, 0, false},
		{-1, least, 0, false},
		{least / 2, -2, 0, false},
		{1 << 32, 1 << 31, 0, false},
		{1 << 32, 1 << 32, 0, false},
		{most, 2, 0, false},
		{least, 2, 0, false},
		{most, most, 0, false},
		{least, least, 0, false},
	})
	checkPairs(t, "Multiply", Multiply, (*big.Int).Mul)
}

// P3.1: Negate, with the least number, which has no opposite.
func TestNegate(t *testing.T) {
	for _, a := range edges() {
		got, ok := Negate(a)
		want, is := exactly(new(big.Int).Neg(big.NewInt(a)))
		if got != want || ok != is {
			t.Errorf("Negate(%d) is %d, %v, want %d, %v", a, got, ok, want, is)
		}
	}
	if got, ok := Negate(least); got != 0 || ok {
		t.Errorf("Negate of the least number is %d, %v", got, ok)
	}
	if got, ok := Negate(5); got != -5 || !ok {
		t.Errorf("Negate(5) is %d, %v", got, ok)
	}
}

// P3.2: Divide cuts toward zero; there is no quotient by 0, and none that is 2^63.
func TestDivide(t *testing.T) {
	checkTable(t, "Divide", Divide, []pair{
		{7, 2, 3, true},
		{-7, 2, -3, true},
		{7, -2, -3, true},
		{-7, -2, 3, true},
		{1, 2, 0, true},
		{-1, 2, 0, true},
		{0, 5, 0, true},
		{0, -1, 0, true},
		{most, -1, -most, true},
		{least, 1, least, true},
		{least, 2, least / 2, true},
		{least, least, 1, true},
		{least, most, -1, true},
		{most, least, 0, true},
		{least, -1, 0, false},
		{0, 0, 0, false},
		{5, 0, 0, false},
		{-1, 0, 0, false},
		{least, 0, 0, false},
		{most, 0, 0, false},
	})
	checkPairs(t, "Divide", Divide, quotient)
}

// P3.2: Modulo has the sign of the first number; there is none by 0, and one where the quotient is 2^63.
func TestModulo(t *testing.T) {
	checkTable(t, "Modulo", Modulo, []pair{
		{7, 2, 1, true},
		{-7, 2, -1, true},
		{7, -2, 1, true},
		{-7, -2, -1, true},
		{1, 2, 1, true},
		{-1, 2, -1, true},
		{0, 5, 0, true},
		{most, -1, 0, true},
		{least, 1, 0, true},
		{least, least, 0, true},
		{least, most, -1, true},
		{most, least, most, true},
		{least, -1, 0, true},
		{0, 0, 0, false},
		{5, 0, 0, false},
		{-1, 0, 0, false},
		{least, 0, 0, false},
		{most, 0, 0, false},
	})
	checkPairs(t, "Modulo", Modulo, remainder)
}

// noNumber returns a number that is not one of 64 bits.
func noNumber() *big.Int { return new(big.Int).Lsh(big.NewInt(1), 100) }

func quotient(z, x, y *big.Int) *big.Int {
	if y.Sign() == 0 {
		return noNumber()
	}
	return z.Quo(x, y)
}

func remainder(z, x, y *big.Int) *big.Int {
	if y.Sign() == 0 {
		return noNumber()
	}
	return z.Rem(x, y)
}

// exactSum returns the sum of l as Sum should.
func exactSum(l []int64) (int64, bool) {
	sum := new(big.Int)
	for _, n := range l {
		sum.Add(sum, big.NewInt(n))
	}
	return exactly(sum)
}

// P3.3: Sum, with partial sums that are too large on either side.
func TestSum(t *testing.T) {
	for _, c := range []struct {
		l    []int64
		want int64
		ok   bool
	}{
		{nil, 0, true},
		{[]int64{}, 0, true},
		{[]int64{0}, 0, true},
		{[]int64{-7}, -7, true},
		{[]int64{least}, least, true},
		{[]int64{most}, most, true},
		{[]int64{5, -7, 4}, 2, true},
		{[]int64{most, 5, -5}, most, true},
		{[]int64{least, -5, 5}, least, true},
		{[]int64{most, most, least, least}, -2, true},
		{[]int64{least, least, most, most, 2}, 0, true},
		{[]int64{least, least, most, most, 1}, -1, true},
		{[]int64{most, 1, least}, 0, true},
		{[]int64{most - 1, 1}, most, true},
		{[]int64{least + 1, -1}, least, true},
		{[]int64{most, 1}, 0, false},
		{[]int64{1, most}, 0, false},
		{[]int64{least, -1}, 0, false},
		{[]int64{most, most}, 0, false},
		{[]int64{least, least}, 0, false},
		{[]int64{most, most, 2}, 0, false},
		{[]int64{most, most, most, most, 4}, 0, false},
		{[]int64{least, least, least, least}, 0, false},
		{[]int64{least, least, least, least, -1}, 0, false},
	} {
		if got, ok := Sum(c.l); got != c.want || ok != c.ok {
			t.Errorf("Sum(%v) is %d, %v, want %d, %v", c.l, got, ok, c.want, c.ok)
		}
	}
}

// P3.3: all sums of two edges, and of three of which the last may bring a sum back.
func TestSumEdges(t *testing.T) {
	l := edges()
	for _, a := range l {
		for _, b := range l {
			for _, c := range []int64{0, -1, 1, least, most, -a, -b} {
				check := []int64{a, b, c}
				got, ok := Sum(check)
				if want, is := exactSum(check); got != want || ok != is {
					t.Errorf("Sum(%v) is %d, %v, want %d, %v", check, got, ok, want, is)
				}
			}
		}
	}
}

// P3.3: long lists, whose partial sums are far beyond 64 bits, and which lack 1 to a limit or exceed it by 1.
func TestSumLong(t *testing.T) {
	var l []int64
	for range 10000 {
		l = append(l, most)
	}
	if got, ok := Sum(l); got != 0 || ok {
		t.Errorf("a sum far beyond the limit is %d, %v", got, ok)
	}
	for range 10000 {
		l = append(l, -most)
	}
	for _, c := range []struct {
		tail []int64
		want int64
		ok   bool
	}{
		{nil, 0, true},
		{[]int64{most}, most, true},
		{[]int64{least}, least, true},
		{[]int64{most, 1}, 0, false},
		{[]int64{least, -1}, 0, false},
	} {
		check := slices.Concat(l, c.tail)
		if got, ok := Sum(check); got != c.want || ok != c.ok {
			t.Errorf("the long sum with %v is %d, %v", c.tail, got, ok)
		}
		slices.Reverse(check)
		if got, ok := Sum(check); got != c.want || ok != c.ok {
			t.Errorf("the long sum with %v, from its end, is %d, %v", c.tail, got, ok)
		}
	}
}

// P3.3 with R2: the list and its spare capacity stay as they are and the latter plays no part.
func TestSumKeepsList(t *testing.T) {
	backing := []int64{1, 2, most, least}
	before := slices.Clone(backing)
	if got, ok := Sum(backing[:2]); got != 3 || !ok {
		t.Errorf("the sum of 1 and 2 is %d, %v", got, ok)
	}
	if !slices.Equal(backing, before) {
		t.Errorf("the list has changed: %v", backing)
	}
}

// The examples of the chapter.
func TestExamples(t *testing.T) {
	whole, ok := Divide(-7, 2)
	rest, is := Modulo(-7, 2)
	if whole != -3 || rest != -1 || !ok || !is {
		t.Errorf("-7 by 2 is %d, and leaves %d", whole, rest)
	}
	if got, ok := Sum([]int64{most, 5, -5}); got != most || !ok {
		t.Errorf("Sum of 2^63 - 1, 5 and -5 is %d, %v", got, ok)
	}
}

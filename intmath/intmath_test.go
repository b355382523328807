package intmath_test

import (
	"math"
	"math/big"
	"slices"
	"testing"

	"computus/intmath"
)

const (
	least = math.MinInt
	most  = math.MaxInt
)

// edges are the numbers near which an operation may round or leave the range.
func edges() []int {
	return []int{
		least, least + 1, least + 2, least / 2, least/2 - 1, least/2 + 1,
		-3037000500, -3037000499, -1 << 32, -1<<31 - 1, -1 << 31, -365, -19, -7, -3, -2, -1,
		0, 1, 2, 3, 7, 19, 365, 1<<31 - 1, 1 << 31, 1 << 32, 3037000499, 3037000500,
		most / 2, most/2 + 1, most/2 + 2, most - 2, most - 1, most,
	}
}

// eachPair calls f for all pairs of edges and of small numbers.
func eachPair(f func(a, b int)) {
	for _, a := range edges() {
		for _, b := range edges() {
			f(a, b)
		}
	}
	for a := -40; a <= 40; a++ {
		for b := -40; b <= 40; b++ {
			f(a, b)
		}
	}
}

// result is what a function returns: a number, and whether there is one.
type result struct {
	n  int
	ok bool
}

func pack(n int, ok bool) result { return result{n, ok} }

// narrow returns the result that is due for the exact number x.
func narrow(x *big.Int) result {
	if !x.IsInt64() {
		return result{}
	}
	return result{int(x.Int64()), true}
}

func wide(n int) *big.Int { return big.NewInt(int64(n)) }

// flooredParts returns the floored quotient and remainder that are due: DivMod
// of big leaves a remainder that is not negative, which differs for b < 0.
func flooredParts(a, b int) (quotient, remainder result) {
	if b == 0 {
		return
	}
	q, r := new(big.Int).DivMod(wide(a), wide(b), new(big.Int))
	if b < 0 && r.Sign() != 0 {
		q.Sub(q, wide(1))
		r.Add(r, wide(b))
	}
	quotient, remainder = narrow(q), narrow(r)
	if !quotient.ok {
		remainder = result{}
	}
	return
}

// P1.1: ordinary numbers of all signs, the divisor 0, and the quotient 2^63.
func TestDivAndMod(t *testing.T) {
	for _, x := range []struct {
		a, b, quotient, remainder int
		ok                        bool
	}{
		{7, 2, 3, 1, true},
		{-7, 2, -4, 1, true},
		{7, -2, -4, -1, true},
		{-7, -2, 3, -1, true},
		{6, 2, 3, 0, true},
		{-6, 2, -3, 0, true},
		{6, -2, -3, 0, true},
		{-6, -2, 3, 0, true},
		{0, 7, 0, 0, true},
		{0, -7, 0, 0, true},
		{1, 7, 0, 1, true},
		{-1, 7, -1, 6, true},
		{1, -7, -1, -6, true},
		{0, 0, 0, 0, false},
		{1, 0, 0, 0, false},
		{least, 0, 0, 0, false},
		{most, 0, 0, 0, false},
		{least, -1, 0, 0, false},
		{least + 1, -1, most, 0, true},
		{most, -1, least + 1, 0, true},
		{least, 1, least, 0, true},
		{least, 2, least / 2, 0, true},
		{least, -2, 1 << 62, 0, true},
		{least, least, 1, 0, true},
		{least, most, -2, most - 1, true},
		{most, least, -1, -1, true},
		{least + 1, 2, least / 2, 1, true},
		{1, least, -1, least + 1, true},
	} {
		if q, ok := intmath.Div(x.a, x.b); q != x.quotient || ok != x.ok {
			t.Errorf("Div(%d, %d) = %d, %v, want %d, %v", x.a, x.b, q, ok, x.quotient, x.ok)
		}
		if r, ok := intmath.Mod(x.a, x.b); r != x.remainder || ok != x.ok {
			t.Errorf("Mod(%d, %d) = %d, %v, want %d, %v", x.a, x.b, r, ok, x.remainder, x.ok)
		}
	}
}

// P1.1: all pairs of edges against exact arithmetic.
func TestDivAndModAreExact(t *testing.T) {
	eachPair(func(a, b int) {
		quotient, remainder := flooredParts(a, b)
		if got := pack(intmath.Div(a, b)); got != quotient {
			t.Errorf("Div(%d, %d) = %v, want %v", a, b, got, quotient)
		}
		if got := pack(intmath.Mod(a, b)); got != remainder {
			t.Errorf("Mod(%d, %d) = %v, want %v", a, b, got, remainder)
		}
	})
}

// P1.1: the remainder is a - b * q, and is 0 or has the sign of b.
func TestDivAndModBelongTogether(t *testing.T) {
	eachPair(func(a, b int) {
		q, ok := intmath.Div(a, b)
		r, is := intmath.Mod(a, b)
		if ok != is {
			t.Fatalf("Div(%d, %d) reports %v, Mod %v", a, b, ok, is)
		}
		if ok && r != a-b*q {
			t.Errorf("Div and Mod of %d and %d: %d and %d", a, b, q, r)
		}
		if r != 0 && (r < 0) != (b < 0) {
			t.Errorf("Mod(%d, %d) = %d has not the sign of the divisor", a, b, r)
		}
	})
}

// P1.2: just inside and just outside of the range.
func TestAdd(t *testing.T) {
	for _, x := range []struct {
		a, b int
		want result
	}{
		{1, 2, result{3, true}},
		{-1, -2, result{-3, true}},
		{5, -5, result{0, true}},
		{0, 0, result{0, true}},
		{0, least, result{least, true}},
		{most, 0, result{most, true}},
		{most - 1, 1, result{most, true}},
		{most, 1, result{}},
		{1, most, result{}},
		{most, most, result{}},
		{least + 1, -1, result{least, true}},
		{least, -1, result{}},
		{-1, least, result{}},
		{least, least, result{}},
		{least, most, result{-1, true}},
		{1 << 62, 1<<62 - 1, result{most, true}},
		{1 << 62, 1 << 62, result{}},
		{-1 << 62, -1 << 62, result{least, true}},
		{-1 << 62, -1<<62 - 1, result{}},
	} {
		if got := pack(intmath.Add(x.a, x.b)); got != x.want {
			t.Errorf("Add(%d, %d) = %v, want %v", x.a, x.b, got, x.want)
		}
	}
}

// P1.2: just inside and just outside of the range.
func TestSub(t *testing.T) {
	for _, x := range []struct {
		a, b int
		want result
	}{
		{3, 2, result{1, true}},
		{2, 3, result{-1, true}},
		{-2, -3, result{1, true}},
		{0, 0, result{0, true}},
		{least, 0, result{least, true}},
		{0, most, result{least + 1, true}},
		{0, least, result{}},
		{-1, least, result{most, true}},
		{least, 1, result{}},
		{least + 1, 1, result{least, true}},
		{most, -1, result{}},
		{most - 1, -1, result{most, true}},
		{least, most, result{}},
		{most, least, result{}},
		{least, least, result{0, true}},
		{most, most, result{0, true}},
		{-2, most, result{}},
		{-1, most, result{least, true}},
	} {
		if got := pack(intmath.Sub(x.a, x.b)); got != x.want {
			t.Errorf("Sub(%d, %d) = %v, want %v", x.a, x.b, got, x.want)
		}
	}
}

// P1.2: just inside and just outside of the range.
func TestMul(t *testing.T) {
	for _, x := range []struct {
		a, b int
		want result
	}{
		{3, 4, result{12, true}},
		{-3, 4, result{-12, true}},
		{-3, -4, result{12, true}},
		{0, 0, result{0, true}},
		{0, least, result{0, true}},
		{least, 0, result{0, true}},
		{1, least, result{least, true}},
		{least, 1, result{least, true}},
		{-1, least, result{}},
		{least, -1, result{}},
		{-1, least + 1, result{most, true}},
		{most, -1, result{least + 1, true}},
		{most, 2, result{}},
		{2, 1<<62 - 1, result{most - 1, true}},
		{2, 1 << 62, result{}},
		{2, -1 << 62, result{least, true}},
		{-2, 1 << 62, result{least, true}},
		{-2, -1 << 62, result{}},
		{2, -1<<62 - 1, result{}},
		{1 << 32, 1 << 31, result{}},
		{1 << 32, -1 << 31, result{least, true}},
		{1 << 32, 1 << 32, result{}},
		{3037000499, 3037000499, result{9223372030926249001, true}},
		{3037000500, 3037000500, result{}},
		{least, least, result{}},
		{most, most, result{}},
		{7, most / 7, result{most, true}},
		{7, most/7 + 1, result{}},
	} {
		if got := pack(intmath.Mul(x.a, x.b)); got != x.want {
			t.Errorf("Mul(%d, %d) = %v, want %v", x.a, x.b, got, x.want)
		}
	}
}

// P1.2: all pairs of edges against exact arithmetic.
func TestAddSubAndMulAreExact(t *testing.T) {
	eachPair(func(a, b int) {
		if got, want := pack(intmath.Add(a, b)), narrow(new(big.Int).Add(wide(a), wide(b))); got != want {
			t.Errorf("Add(%d, %d) = %v, want %v", a, b, got, want)
		}
		if got, want := pack(intmath.Sub(a, b)), narrow(new(big.Int).Sub(wide(a), wide(b))); got != want {
			t.Errorf("Sub(%d, %d) = %v, want %v", a, b, got, want)
		}
		if got, want := pack(intmath.Mul(a, b)), narrow(new(big.Int).Mul(wide(a), wide(b))); got != want {
			t.Errorf("Mul(%d, %d) = %v, want %v", a, b, got, want)
		}
	})
}

// P1.3: no numbers, sums at the ends of the range, and sums that leave the
// range part of the way, even if they come back.
func TestSum(t *testing.T) {
	for _, x := range []struct {
		l    []int
		want result
	}{
		{nil, result{0, true}},
		{[]int{}, result{0, true}},
		{[]int{5}, result{5, true}},
		{[]int{least}, result{least, true}},
		{[]int{most}, result{most, true}},
		{[]int{1, 2, 3, -10}, result{-4, true}},
		{[]int{most, -1, 1}, result{most, true}},
		{[]int{most, 1}, result{}},
		{[]int{most, 1, -1}, result{}},
		{[]int{1, most, least}, result{}},
		{[]int{least, most, 1}, result{0, true}},
		{[]int{least, -1, 1}, result{}},
		{[]int{least, 1, -1}, result{least, true}},
		{[]int{0, least, most, most, 1}, result{most, true}},
		{[]int{0, least, most, most, 2}, result{}},
		{[]int{most, 1, least, least}, result{}},
	} {
		if got := pack(intmath.Sum(x.l...)); got != x.want {
			t.Errorf("Sum(%v) = %v, want %v", x.l, got, x.want)
		}
	}
	if got := pack(intmath.Sum()); got != (result{0, true}) {
		t.Errorf("Sum() = %v", got)
	}
	if got := pack(intmath.Sum(1, 20, 300)); got != (result{321, true}) {
		t.Errorf("Sum(1, 20, 300) = %v", got)
	}
}

// P1.3: all lists of three edges against exact arithmetic.
func TestSumIsExact(t *testing.T) {
	eachPair(func(a, b int) {
		for _, c := range edges() {
			want := narrow(new(big.Int).Add(wide(a), wide(b)))
			if want.ok {
				want = narrow(new(big.Int).Add(wide(want.n), wide(c)))
			}
			if got := pack(intmath.Sum(a, b, c)); got != want {
				t.Fatalf("Sum(%d, %d, %d) = %v, want %v", a, b, c, got, want)
			}
		}
	})
}

// P1.4: at, within and beyond both bounds, also where they are equal.
func TestClamp(t *testing.T) {
	for _, x := range []struct{ n, low, high, want int }{
		{0, 1, 3, 1},
		{1, 1, 3, 1},
		{2, 1, 3, 2},
		{3, 1, 3, 3},
		{4, 1, 3, 3},
		{-5, -3, -1, -3},
		{-3, -3, -1, -3},
		{-2, -3, -1, -2},
		{-1, -3, -1, -1},
		{0, -3, -1, -1},
		{4, 5, 5, 5},
		{5, 5, 5, 5},
		{6, 5, 5, 5},
		{least, 0, 9, 0},
		{most, 0, 9, 9},
		{least, least, most, least},
		{most, least, most, most},
		{7, least, most, 7},
		{least, least + 1, most, least + 1},
		{most, least, most - 1, most - 1},
		{0, least, least, least},
		{0, most, most, most},
	} {
		if got := intmath.Clamp(x.n, x.low, x.high); got != x.want {
			t.Errorf("Clamp(%d, %d, %d) = %d, want %d", x.n, x.low, x.high, got, x.want)
		}
	}
}

// P1.5: Sum leaves its numbers and the unused capacity behind them as they are,
// whether it returns a sum or fails at the first, a middle or the last number.
func TestSumLeavesItsArguments(t *testing.T) {
	for _, l := range [][]int{{}, {4, 5, 6}, {3, 2, 1}, {most, 1, -1}, {least, -1}, {1, most, 7}} {
		whole := append(slices.Clone(l), 77, 88, 99)
		before := slices.Clone(whole)
		intmath.Sum(whole[:len(l)]...)
		if !slices.Equal(whole, before) {
			t.Errorf("Sum changed %v to %v", before, whole)
		}
	}
}

package iv_test

import (
	"math"
	"math/big"
	"testing"

	"meniscus/api"
	"meniscus/iv"
)

const (
	one  = api.One
	most = api.Most
)

var none = api.Iv{No: true}

// notIn are ints that are no numbers; the wrapped products of some of them are.
var notIn = []int{most + 1, -most - 1, math.MaxInt32 + 1, math.MinInt32, 1 << 32, -1 << 32, 1 << 48, -1 << 48, 1 << 62, math.MaxInt, math.MinInt, math.MinInt + 1}

// unary is a call of one interval, with what it is called in a complaint.
type unary struct {
	name string
	call func(a api.Iv) api.Iv
}

// binary is a call of two.
type binary struct {
	name string
	call func(a, b api.Iv) api.Iv
}

func unaries() []unary {
	return []unary{
		{"Neg", iv.Neg}, {"Sqr", iv.Sqr}, {"Root", iv.Root},
		{"Times 0", func(a api.Iv) api.Iv { return iv.Times(a, 0) }},
		{"Times 3", func(a api.Iv) api.Iv { return iv.Times(a, 3) }},
		{"Times -2", func(a api.Iv) api.Iv { return iv.Times(a, -2) }},
		{"Times Most", func(a api.Iv) api.Iv { return iv.Times(a, most) }},
		{"Times -Most", func(a api.Iv) api.Iv { return iv.Times(a, -most) }},
	}
}

func binaries() []binary {
	return []binary{{"Add", iv.Add}, {"Sub", iv.Sub}, {"Mul", iv.Mul}, {"Div", iv.Div}, {"Hull", iv.Hull}, {"Meet", iv.Meet}}
}

func of(lo, hi int) api.Iv {
	return api.Iv{Lo: lo, Hi: hi}
}

// wrong are intervals that are not right.
func wrong() []api.Iv {
	l := []api.Iv{
		none, {Lo: 1, Hi: 2, No: true}, {Lo: 5, Hi: -5, No: true}, {Lo: math.MinInt, Hi: math.MaxInt, No: true},
		of(1, 0), of(0, -1), of(most, -most), of(math.MaxInt, math.MinInt), of(math.MinInt, math.MaxInt),
	}
	for _, n := range notIn {
		l = append(l, of(n, n), of(0, n), of(n, 0), of(n, most), of(-most, n))
	}
	return l
}

// numbers are of all sizes and both signs, the bounds among them.
func numbers() []int {
	ns := []int{0}
	for _, n := range []int{1, 2, 7, 257, 21845, one - 1, one, one + 1, 3 * one / 2, 1000003, 8388607, 1 << 23, 8388609, 119537917, most - 1, most} {
		ns = append(ns, n, -n)
	}
	return ns
}

// intervals are all that have ends among the numbers.
func intervals() []api.Iv {
	var l []api.Iv
	for _, lo := range numbers() {
		for _, hi := range numbers() {
			if lo <= hi {
				l = append(l, of(lo, hi))
			}
		}
	}
	return l
}

// small are all intervals with ends of at most n, each way.
func small(n int) []api.Iv {
	var l []api.Iv
	for lo := -n; lo <= n; lo++ {
		for hi := lo; hi <= n; hi++ {
			l = append(l, of(lo, hi))
		}
	}
	return l
}

func check(t *testing.T, what string, got, want api.Iv) {
	t.Helper()
	if got != want {
		t.Errorf("%s: %+v, not %+v", what, got, want)
	}
}

// steps is n / by, as a fraction that is exact.
func steps(n, by int) *big.Rat {
	return new(big.Rat).SetFrac(big.NewInt(int64(n)), big.NewInt(int64(by)))
}

func product(a, b *big.Rat) *big.Rat {
	return new(big.Rat).Mul(a, b)
}

// times is x * y / One, exactly.
func times(x, y int) *big.Rat {
	return product(steps(x, one), steps(y, 1))
}

// quotient is x * One / y, exactly; y is not 0.
func quotient(x, y int) *big.Rat {
	return product(steps(x, y), steps(one, 1))
}

// floor is the greatest whole number that is not above r.
func floor(r *big.Rat) *big.Int {
	// A denominator is above 0, so that Euclid's division is floored.
	return new(big.Int).Div(r.Num(), r.Denom())
}

// rounded is from the least of the fractions, rounded down, to the greatest, rounded up; none, where one is no number.
func rounded(l ...*big.Rat) api.Iv {
	least, greatest := l[0], l[0]
	for _, r := range l {
		if r.Cmp(least) < 0 {
			least = r
		}
		if r.Cmp(greatest) > 0 {
			greatest = r
		}
	}
	lo := floor(least)
	hi := floor(new(big.Rat).Neg(greatest))
	hi.Neg(hi)
	if lo.CmpAbs(big.NewInt(most)) > 0 || hi.CmpAbs(big.NewInt(most)) > 0 {
		return none
	}
	return of(int(lo.Int64()), int(hi.Int64()))
}

// holds tells whether r lies in a.
func holds(a api.Iv, r *big.Rat) bool {
	return steps(a.Lo, 1).Cmp(r) <= 0 && r.Cmp(steps(a.Hi, 1)) <= 0
}

func TestRight(t *testing.T) {
	for _, a := range append(intervals(), of(0, 0), of(-most, -most), of(most, most), of(-most, most), of(most-1, most)) {
		if !iv.Right(a) {
			t.Errorf("2.1: Right(%+v) is false", a)
		}
	}
	for _, a := range wrong() {
		if iv.Right(a) {
			t.Errorf("2.1: Right(%+v) is true", a)
		}
	}
}

func TestNone(t *testing.T) {
	check(t, "2.1: None", iv.None(), none)
}

func TestOf(t *testing.T) {
	for _, a := range intervals() {
		check(t, "2.1: Of", iv.Of(a.Lo, a.Hi), a)
		if a.Lo < a.Hi {
			check(t, "2.1: Of the wrong way", iv.Of(a.Hi, a.Lo), none)
		}
	}
	for _, n := range notIn {
		for _, m := range append(numbers(), notIn...) {
			check(t, "2.1: Of no number", iv.Of(n, m), none)
			check(t, "2.1: Of no number", iv.Of(m, n), none)
		}
	}
}

func TestPointAndWhole(t *testing.T) {
	for _, n := range numbers() {
		check(t, "2.1: Point", iv.Point(n), of(n, n))
	}
	for _, n := range []int{0, 1, -1, 2, -3, 100, -100, 16383, 16384, -16383, -16384} {
		check(t, "2.1: Whole", iv.Whole(n), of(n*one, n*one))
	}
	for _, n := range []int{16385, -16385, one, -one, most - 1, 1 - most, most, -most} {
		check(t, "2.1: Whole beyond Most", iv.Whole(n), none)
	}
	for _, n := range notIn {
		check(t, "2.1: Point of no number", iv.Point(n), none)
		check(t, "2.1: Whole of no number", iv.Whole(n), none)
	}
}

func TestAddSubNeg(t *testing.T) {
	for _, c := range []struct{ a, b, sum, less api.Iv }{
		{of(1, 2), of(-5, 7), of(-4, 9), of(-6, 7)},
		{of(3, 3), of(4, 4), of(7, 7), of(-1, -1)},
		{of(-9, -4), of(-3, 8), of(-12, 4), of(-17, -1)},
		{of(0, most-1), of(0, 1), of(0, most), of(-1, most-1)},
		{of(0, most), of(0, 1), none, of(-1, most)},
		{of(0, most), of(-1, 0), of(-1, most), none},
		{of(-most, 0), of(-1, 0), none, of(-most, 1)},
		{of(-most, 0), of(0, 1), of(-most, 1), none},
		{of(1-most, 0), of(-1, 0), of(-most, 0), of(1-most, 1)},
		{of(most, most), of(most, most), none, of(0, 0)},
		{of(-most, -most), of(most, most), of(0, 0), none},
	} {
		check(t, "2.1: Add", iv.Add(c.a, c.b), c.sum)
		check(t, "2.1: Add", iv.Add(c.b, c.a), c.sum)
		check(t, "2.1: Sub", iv.Sub(c.a, c.b), c.less)
	}
	for _, a := range intervals() {
		check(t, "2.1: Neg", iv.Neg(a), of(-a.Hi, -a.Lo))
	}
}

func TestMul(t *testing.T) {
	// The example of chapter 2.
	check(t, "2.1: the example", iv.Mul(iv.Of(-1, 1), iv.Of(0, 65537)), of(-2, 2))
	for _, c := range []struct{ a, b, want api.Iv }{
		{of(2*one, 3*one), of(4*one, 5*one), of(8*one, 15*one)},
		{of(-3*one, -2*one), of(4*one, 5*one), of(-15*one, -8*one)},
		{of(-3*one, -2*one), of(-5*one, -4*one), of(8*one, 15*one)},
		{of(-3*one, 2*one), of(4*one, 5*one), of(-15*one, 10*one)},
		{of(-3*one, 2*one), of(-5*one, -4*one), of(-10*one, 15*one)},
		{of(-3*one, 2*one), of(-4*one, 5*one), of(-15*one, 12*one)},
		{of(0, 0), of(-most, most), of(0, 0)},
		{of(1, 1), of(1, 1), of(0, 1)}, {of(-1, -1), of(1, 1), of(-1, 0)}, {of(-1, 1), of(-1, 1), of(-1, 1)},
		{of(-most, most), of(one, one), of(-most, most)}, {of(-most, most), of(-one, one), of(-most, most)},
		{of(0, most), of(0, one+1), none}, {of(-most, 0), of(0, one+1), none},
		{of(-most, most), of(-most, most), none},
		// 2^46 - 1 steps by One: a part of a step below Most.
		{of(8388607, 8388607), of(8388609, 8388609), of(most-1, most)},
		{of(-8388607, -8388607), of(8388609, 8388609), of(-most, 1-most)},
		// 2^46 + 36477: a part of a step above it: rounded one way a number, the other way none.
		{of(119537917, 119537917), of(588673, 588673), none},
		{of(-119537917, -119537917), of(588673, 588673), none},
	} {
		check(t, "2.1: Mul", iv.Mul(c.a, c.b), c.want)
		check(t, "2.1: Mul", iv.Mul(c.b, c.a), c.want)
	}
}

func TestTimes(t *testing.T) {
	for _, c := range []struct {
		a    api.Iv
		k    int
		want api.Iv
	}{
		{of(-5, 7), 3, of(-15, 21)}, {of(-5, 7), -3, of(-21, 15)}, {of(-5, 7), 1, of(-5, 7)}, {of(-5, 7), -1, of(-7, 5)},
		{of(2, 5), 4, of(8, 20)}, {of(2, 5), -4, of(-20, -8)}, {of(-most, most), 0, of(0, 0)},
		{of(-most, most), 1, of(-most, most)}, {of(-most, most), -1, of(-most, most)}, {of(-most, most), 2, none},
		{of(0, 1), most, of(0, most)}, {of(0, 1), -most, of(-most, 0)}, {of(0, 2), most, none}, {of(0, 2), -most, none},
		{of(-1<<29, 1<<29), 2, of(-most, most)}, {of(0, 1<<29+1), 2, none}, {of(-1<<29-1, 0), 2, none},
		{of(-most, -most), -most, none}, {of(most, most), most, none},
	} {
		check(t, "2.1: Times", iv.Times(c.a, c.k), c.want)
	}
	for _, k := range notIn {
		for _, a := range append(intervals(), wrong()...) {
			check(t, "2.1: Times an int that is not In", iv.Times(a, k), none)
		}
	}
}

func TestSqr(t *testing.T) {
	for _, c := range []struct{ a, want api.Iv }{
		{of(2*one, 3*one), of(4*one, 9*one)}, {of(-3*one, -2*one), of(4*one, 9*one)},
		{of(-3*one, 2*one), of(0, 9*one)}, {of(-2*one, 3*one), of(0, 9*one)},
		{of(0, 0), of(0, 0)}, {of(0, 3*one), of(0, 9*one)}, {of(-3*one, 0), of(0, 9*one)},
		{of(1, 1), of(0, 1)}, {of(-1, -1), of(0, 1)}, {of(-1, 1), of(0, 1)}, {of(257, 300), of(1, 2)}, {of(-300, -257), of(1, 2)},
		{of(0, 1<<23), of(0, most)}, {of(-1<<23, 1<<23), of(0, most)}, {of(1<<23, 1<<23), of(most, most)},
		{of(0, 1<<23+1), none}, {of(-1<<23-1, 0), none}, {of(1<<23+1, 1<<23+1), none}, {of(-most, most), none},
		{of(8388607, 8388607), of(1073741568, 1073741569)},
	} {
		check(t, "2.1: Sqr", iv.Sqr(c.a), c.want)
	}
}

func TestDiv(t *testing.T) {
	for _, c := range []struct{ a, b, want api.Iv }{
		{of(6*one, 8*one), of(2*one, 4*one), of(3*one/2, 4*one)}, {of(-8*one, -6*one), of(2*one, 4*one), of(-4*one, -3*one/2)},
		{of(6*one, 8*one), of(-4*one, -2*one), of(-4*one, -3*one/2)}, {of(-8*one, -6*one), of(-4*one, -2*one), of(3*one/2, 4*one)},
		{of(-6*one, 8*one), of(2*one, 4*one), of(-3*one, 4*one)}, {of(-6*one, 8*one), of(-4*one, -2*one), of(-4*one, 3*one)},
		{of(1, 1), of(3, 3), of(21845, 21846)}, {of(-1, -1), of(3, 3), of(-21846, -21845)},
		{of(0, 0), of(1, most), of(0, 0)}, {of(1, 1), of(most, most), of(0, 1)}, {of(-1, -1), of(most, most), of(-1, 0)},
		{of(-most, most), of(one, most), of(-most, most)}, {of(-most, most), of(-most, -one), of(-most, most)},
		{of(0, most), of(one-1, one), none}, {of(-most, 0), of(one-1, one), none}, {of(0, most), of(-one, 1-one), none},
		{of(1, 1<<14), of(1, 1), of(one, most)}, {of(1, 1<<14+1), of(1, 1), none}, {of(-1<<14-1, 0), of(1, 1), none},
		// Only one of the four quotients is no number.
		{of(1, 1<<14+1), of(1, 2), none}, {of(-1<<14-1, 1), of(1, 2), none},
	} {
		check(t, "2.1: Div", iv.Div(c.a, c.b), c.want)
	}
	for _, a := range intervals() {
		for _, b := range []api.Iv{of(0, 0), of(0, 1), of(-1, 0), of(-1, 1), of(0, most), of(-most, 0), of(-most, most)} {
			check(t, "2.1: Div, 0 in the divisor", iv.Div(a, b), none)
		}
	}
}

func TestRoot(t *testing.T) {
	for _, c := range []struct{ a, want api.Iv }{
		{of(0, 0), of(0, 0)}, {of(0, 4*one), of(0, 2*one)}, {of(one, 9*one), of(one, 3*one)},
		{of(2, 2), of(362, 363)}, {of(2, 3), of(362, 444)}, {of(one-1, one+1), of(65535, 65537)},
		{of(0, most), of(0, 8388608)}, {of(most-1, most-1), of(8388607, 8388608)}, {of(most, most), of(8388608, 8388608)},
		{of(-1, 4), none}, {of(-1, -1), none}, {of(-1, 0), none}, {of(-most, most), none}, {of(-most, -most), none},
	} {
		check(t, "2.1: Root", iv.Root(c.a), c.want)
	}
}

// TestAgainstBig holds all intervals by all, small and great, against fractions that are exact.
func TestAgainstBig(t *testing.T) {
	for _, l := range [][]api.Iv{small(4), intervals()} {
		for i, a := range l {
			checkOneAgainstBig(t, a)
			for j := i % 7; j < len(l); j += 7 {
				checkTwoAgainstBig(t, a, l[j])
			}
		}
	}
}

func checkOneAgainstBig(t *testing.T, a api.Iv) {
	t.Helper()
	squares := []*big.Rat{times(a.Lo, a.Lo), times(a.Hi, a.Hi)}
	if a.Lo <= 0 && 0 <= a.Hi {
		squares = append(squares, new(big.Rat))
	}
	check(t, "2.1: Sqr", iv.Sqr(a), rounded(squares...))
	for _, k := range numbers() {
		check(t, "2.1: Times", iv.Times(a, k), rounded(product(steps(k, 1), steps(a.Lo, 1)), product(steps(k, 1), steps(a.Hi, 1))))
	}
}

func checkTwoAgainstBig(t *testing.T, a, b api.Iv) {
	t.Helper()
	check(t, "2.1: Add", iv.Add(a, b), rounded(steps(a.Lo+b.Lo, 1), steps(a.Hi+b.Hi, 1)))
	check(t, "2.1: Sub", iv.Sub(a, b), rounded(steps(a.Lo-b.Hi, 1), steps(a.Hi-b.Lo, 1)))
	check(t, "2.1: Mul", iv.Mul(a, b), rounded(times(a.Lo, b.Lo), times(a.Lo, b.Hi), times(a.Hi, b.Lo), times(a.Hi, b.Hi)))
	want := none
	if b.Lo > 0 || b.Hi < 0 {
		want = rounded(quotient(a.Lo, b.Lo), quotient(a.Lo, b.Hi), quotient(a.Hi, b.Lo), quotient(a.Hi, b.Hi))
	}
	check(t, "2.1: Div", iv.Div(a, b), want)
}

func TestHullAndMeet(t *testing.T) {
	for _, c := range []struct{ a, b, hull, meet api.Iv }{
		{of(1, 2), of(7, 9), of(1, 9), none}, {of(1, 8), of(7, 9), of(1, 9), of(7, 8)}, {of(1, 7), of(7, 9), of(1, 9), of(7, 7)},
		{of(1, 6), of(7, 9), of(1, 9), none}, {of(1, 9), of(3, 4), of(1, 9), of(3, 4)}, {of(-5, -3), of(-4, 6), of(-5, 6), of(-4, -3)},
		{of(5, 5), of(5, 5), of(5, 5), of(5, 5)}, {of(5, 5), of(6, 6), of(5, 6), none},
		{of(-most, -most), of(most, most), of(-most, most), none}, {of(-most, most), of(0, 0), of(-most, most), of(0, 0)},
	} {
		check(t, "2.2: Hull", iv.Hull(c.a, c.b), c.hull)
		check(t, "2.2: Hull", iv.Hull(c.b, c.a), c.hull)
		check(t, "2.2: Meet", iv.Meet(c.a, c.b), c.meet)
		check(t, "2.2: Meet", iv.Meet(c.b, c.a), c.meet)
	}
}

// TestPartsByTheirNumbers asks number by number what lies in small intervals.
func TestPartsByTheirNumbers(t *testing.T) {
	const n = 4
	for _, a := range small(n) {
		for _, b := range small(n) {
			inside := true
			hull, meet := iv.Hull(a, b), iv.Meet(a, b)
			for x := -n - 1; x <= n+1; x++ {
				inA, inB := a.Lo <= x && x <= a.Hi, b.Lo <= x && x <= b.Hi
				if iv.Has(a, x) != inA {
					t.Errorf("2.2: Has(%+v, %d) is %t", a, x, !inA)
				}
				if iv.Has(meet, x) != (inA && inB) || (inA || inB) && !iv.Has(hull, x) {
					t.Errorf("2.2: %+v, %+v, at %d: Meet %+v, Hull %+v", a, b, x, meet, hull)
				}
				inside = inside && (!inA || inB)
			}
			if iv.Inside(a, b) != inside {
				t.Errorf("2.2: Inside(%+v, %+v) is %t", a, b, !inside)
			}
			if hull.Lo != a.Lo && hull.Lo != b.Lo || hull.Hi != a.Hi && hull.Hi != b.Hi {
				t.Errorf("2.2: Hull(%+v, %+v) is %+v, not the least", a, b, hull)
			}
		}
	}
}

func TestHasAndInside(t *testing.T) {
	all := of(-most, most)
	for _, n := range numbers() {
		if !iv.Has(all, n) || !iv.Has(of(n, n), n) || iv.Has(of(n, n), n+1) || iv.Has(of(n, n), n-1) {
			t.Errorf("2.2: Has %d", n)
		}
	}
	for _, n := range notIn {
		if iv.Has(all, n) {
			t.Errorf("2.2: Has(%+v, %d) is true", all, n)
		}
	}
	for _, a := range intervals() {
		if !iv.Inside(a, a) || !iv.Inside(a, all) || iv.Inside(all, a) != (a == all) {
			t.Errorf("2.2: Inside of %+v", a)
		}
	}
}

func TestMidAndSplit(t *testing.T) {
	for _, c := range []struct {
		a    api.Iv
		want int
	}{
		{of(0, 5), 2}, {of(-5, 0), -3}, {of(0, 1), 0}, {of(-1, 0), -1}, {of(-1, 1), 0}, {of(7, 7), 7}, {of(-7, -7), -7}, {of(-6, 1), -3}, {of(-8, -3), -6},
		{of(-most, most), 0}, {of(most-1, most), most - 1}, {of(-most, 1-most), -most}, {of(most, most), most}, {of(-most, -most), -most},
	} {
		if got := iv.Mid(c.a); got != c.want {
			t.Errorf("2.2: Mid(%+v) = %d, not %d", c.a, got, c.want)
		}
		low, top := iv.Split(c.a)
		check(t, "2.2: Split, the lower", low, of(c.a.Lo, c.want))
		check(t, "2.2: Split, the upper", top, of(c.want, c.a.Hi))
	}
}

// TestOfWhatIsNotRight: no call says anything of it, nor panics (2.1, R1, R3).
func TestOfWhatIsNotRight(t *testing.T) {
	others := append(wrong(), of(0, 0), of(1, 1), of(-one, one), of(one, 2*one), of(-most, most))
	for _, bad := range wrong() {
		for _, c := range unaries() {
			check(t, "2.1: "+c.name+" of what is not right", c.call(bad), none)
		}
		for _, other := range others {
			for _, c := range binaries() {
				check(t, "2.1: "+c.name+" of what is not right", c.call(bad, other), none)
				check(t, "2.1: "+c.name+" of what is not right", c.call(other, bad), none)
			}
			if iv.Inside(bad, other) || iv.Inside(other, bad) {
				t.Errorf("2.1: Inside of %+v and %+v is true", bad, other)
			}
		}
		low, top := iv.Split(bad)
		check(t, "2.1: Split of what is not right", low, none)
		check(t, "2.1: Split of what is not right", top, none)
		if got := iv.Mid(bad); got != 0 {
			t.Errorf("2.1: Mid(%+v) = %d", bad, got)
		}
		for _, n := range append([]int{bad.Lo, bad.Hi, 0, 1, -1, most, -most}, notIn...) {
			if iv.Has(bad, n) {
				t.Errorf("2.1: Has(%+v, %d) is true", bad, n)
			}
		}
	}
}

// within are some numbers in a: its ends, its middle, and beside them.
func within(a api.Iv) []int {
	mid := a.Lo + (a.Hi-a.Lo)/2
	return []int{a.Lo, min(a.Lo+1, a.Hi), mid, a.Lo + (a.Hi-a.Lo)/3, max(a.Hi-1, a.Lo), a.Hi}
}

// some are intervals for the theorem: small ones, and some of all sizes.
func some() []api.Iv {
	l := small(2)
	for i, a := range intervals() {
		if i%11 == 0 {
			l = append(l, a)
		}
	}
	return append(l, of(-3*one, 2*one), of(one/2, 5*one), of(-7*one, -one/3), of(257, 300), of(-most, most), of(0, most), of(one, 1<<23))
}

// checkHeld: what is exact lies in an answer that says something.
func checkHeld(t *testing.T, name string, answer api.Iv, exact *big.Rat) {
	t.Helper()
	if !answer.No && !holds(answer, exact) {
		t.Errorf("2.3: %s: %s is not in %+v", name, exact.RatString(), answer)
	}
}

// TestHeld: of numbers in intervals the exact sum, difference, product, quotient lies in the answer.
func TestHeld(t *testing.T) {
	for _, a := range some() {
		for _, b := range some() {
			sum, less, prod, quot := iv.Add(a, b), iv.Sub(a, b), iv.Mul(a, b), iv.Div(a, b)
			for _, x := range within(a) {
				for _, y := range within(b) {
					checkHeld(t, "Add", sum, steps(x+y, 1))
					checkHeld(t, "Sub", less, steps(x-y, 1))
					checkHeld(t, "Mul", prod, times(x, y))
					if !quot.No {
						checkHeld(t, "Div", quot, quotient(x, y))
					}
				}
			}
		}
	}
}

// TestHeldOfOne: so does the number's square, its opposite, its multiple, its root.
func TestHeldOfOne(t *testing.T) {
	for _, a := range append(small(5), intervals()...) {
		square, root := iv.Sqr(a), iv.Root(a)
		for _, x := range within(a) {
			checkHeld(t, "Sqr", square, times(x, x))
			checkHeld(t, "Neg", iv.Neg(a), steps(-x, 1))
			for _, k := range []int{0, 1, -1, 3, -3, one, -one, most, -most} {
				checkHeld(t, "Times", iv.Times(a, k), product(steps(k, 1), steps(x, 1)))
			}
			if root.No {
				continue
			}
			// A root lies between its ends, if x does between their squares.
			if n := x * one; root.Lo*root.Lo > n || root.Hi*root.Hi < n {
				t.Errorf("2.3: the root of %d is not in Root(%+v), %+v", x, a, root)
			}
		}
	}
}

// lesser are some intervals that lie in a.
func lesser(a api.Iv) []api.Iv {
	l := []api.Iv{a}
	ns := within(a)
	for i, n := range ns {
		l = append(l, of(n, n), of(a.Lo, n), of(n, a.Hi))
		if i > 0 && ns[i-1] <= n {
			l = append(l, of(ns[i-1], n))
		}
	}
	return l
}

// checkLess: what is said of less lies in what is said of more, if that says something.
func checkLess(t *testing.T, name string, less, more api.Iv) {
	t.Helper()
	if !more.No && !iv.Inside(less, more) {
		t.Errorf("2.3: %s of less: %+v, not in %+v", name, less, more)
	}
}

// TestLessOfOne: of less each call tells less.
func TestLessOfOne(t *testing.T) {
	for _, a := range append(small(4), intervals()...) {
		for _, c := range unaries() {
			for _, less := range lesser(a) {
				checkLess(t, c.name, c.call(less), c.call(a))
			}
		}
	}
}

// TestLessOfTwo: so it does of less of either, or of both.
func TestLessOfTwo(t *testing.T) {
	for _, a := range some() {
		for _, b := range some() {
			for _, c := range binaries() {
				checkLessOfTwo(t, c, a, b)
			}
		}
	}
}

func checkLessOfTwo(t *testing.T, c binary, a, b api.Iv) {
	t.Helper()
	more := c.call(a, b)
	for _, x := range lesser(a) {
		for _, y := range []api.Iv{b, of(b.Lo, b.Lo), of(b.Hi, b.Hi), of(b.Lo+(b.Hi-b.Lo)/2, b.Hi)} {
			less := c.call(x, y)
			// Less of two that meet may meet nowhere.
			if less.No && c.name == "Meet" {
				continue
			}
			checkLess(t, c.name, less, more)
		}
	}
}

// TestLessIsInside: less has no number that more has not, and is inside what more is inside of.
func TestLessIsInside(t *testing.T) {
	for _, a := range some() {
		for _, less := range lesser(a) {
			for _, n := range append(within(a), numbers()...) {
				if iv.Has(less, n) && !iv.Has(a, n) {
					t.Errorf("2.3: %+v has %d, %+v has not", less, n, a)
				}
			}
			for _, b := range some() {
				if iv.Inside(a, b) && !iv.Inside(less, b) {
					t.Errorf("2.3: %+v is inside %+v, %+v is not", a, b, less)
				}
			}
		}
	}
}

// TestHalves: what is in an interval is in one of its halves, and they are less of it.
func TestHalves(t *testing.T) {
	for _, a := range append(small(5), intervals()...) {
		low, top := iv.Split(a)
		checkLess(t, "Split", low, a)
		checkLess(t, "Split", top, a)
		check(t, "2.3: both halves", iv.Hull(low, top), a)
		for _, n := range within(a) {
			if !iv.Has(low, n) && !iv.Has(top, n) {
				t.Errorf("2.3: %d of %+v is in no half", n, a)
			}
		}
	}
}

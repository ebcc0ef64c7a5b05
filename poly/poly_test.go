package poly_test

import (
	"math"
	"math/big"
	"slices"
	"testing"

	"meniscus/api"
	"meniscus/iv"
	"meniscus/poly"
)

const (
	one  = api.One
	most = api.Most
)

var none = api.Iv{No: true}

func of(lo, hi int) api.Iv {
	return api.Iv{Lo: lo, Hi: hi}
}

func point(n int) api.Iv {
	return of(n, n)
}

// wholes are points of whole numbers: One steps to each 1.
func wholes(ns ...int) []api.Iv {
	var l []api.Iv
	for _, n := range ns {
		l = append(l, point(n*one))
	}
	return l
}

// wrong are intervals that are not right: No, an end that is not In, Lo above Hi.
func wrong() []api.Iv {
	l := []api.Iv{
		none, {Lo: 1, Hi: 2, No: true}, {Lo: 0, Hi: one, No: true}, {Lo: most, Hi: most, No: true}, {Lo: 5, Hi: -5, No: true}, {Lo: math.MinInt, Hi: math.MaxInt, No: true},
		of(1, 0), of(0, -1), of(5, 4), of(most, -most), of(most, most-1), of(math.MaxInt, math.MinInt), of(math.MinInt, math.MaxInt),
	}
	for _, end := range []int{most + 1, -most - 1, math.MaxInt32 + 1, math.MinInt32 - 1, 1 << 32, -1 << 32, 1 << 48, 1 << 62, math.MaxInt, math.MinInt, math.MinInt + 1} {
		l = append(l, of(end, end), of(min(0, end), max(0, end)), of(max(0, end), min(0, end)), of(-most, end), of(end, most))
	}
	return l
}

// some are intervals of all sizes, points and the bounds among them.
func some() []api.Iv {
	return []api.Iv{
		of(0, 0), of(1, 1), of(-1, -1), of(-1, 1), of(0, 1), of(one, one), of(-one, 2*one), of(3*one, 5*one), of(-7*one, -one/3), of(one/2, one/2+3), of(-21845, 21846),
		of(257, 300), of(-8388609, 8388607), of(1000003, 1000004), of(-most, most), of(0, most), of(most, most), of(-most, -most), of(-most, 1-most),
	}
}

// xs are the intervals that lists are summed at.
func xs() []api.Iv {
	return append(some(), of(2*one, 2*one), of(-3*one, -2*one), of(-one, one), of(one-1, one+1), of(-one/7, one/3), of(1<<22, 1<<23))
}

// pick turns a number into one of the list, in a fixed way that goes through it in no simple order.
func pick(list []api.Iv, n int) api.Iv {
	return list[(n*n*7+n*3+n/len(list))%len(list)]
}

// lists are lists of each length up to 7, of small ones and of all sizes.
func lists() [][]api.Iv {
	small := []api.Iv{of(0, 0), of(one, one), of(-one, 2*one), of(1, 2), of(-3, 5), of(-2*one, -one), of(one/3, one/2), of(-77777, -77776), of(5*one, 6*one)}
	l := [][]api.Iv{nil}
	for size := 1; size <= 7; size++ {
		for start := range 24 {
			var a, b []api.Iv
			for k := range size {
				a = append(a, pick(small, start*5+k*11))
				b = append(b, pick(some(), start*5+k*13))
			}
			l = append(l, a, b)
		}
	}
	return l
}

func check(t *testing.T, what string, got, want api.Iv) {
	t.Helper()
	if got != want {
		t.Errorf("4.1: %s: %+v, not %+v", what, got, want)
	}
}

// right tells whether a is right, by the words of 2.1.
func right(a api.Iv) bool {
	return !a.No && -most <= a.Lo && a.Lo <= a.Hi && a.Hi <= most
}

// floor is n / One, floored.
func floor(n *big.Int) int {
	// Euclid's division is floored, as One is above 0.
	return int(new(big.Int).Div(n, big.NewInt(one)).Int64())
}

// product is a * b, rounded outward, reckoned in great numbers.
func product(a, b api.Iv) api.Iv {
	if !right(a) || !right(b) {
		return none
	}
	lo, hi := math.MaxInt, math.MinInt
	for _, x := range []int{a.Lo, a.Hi} {
		for _, y := range []int{b.Lo, b.Hi} {
			n := new(big.Int).Mul(big.NewInt(int64(x)), big.NewInt(int64(y)))
			lo = min(lo, floor(n))
			hi = max(hi, -floor(new(big.Int).Neg(n)))
		}
	}
	return bounded(lo, hi)
}

// bounded is lo to hi; none, if that is not right.
func bounded(lo, hi int) api.Iv {
	if !right(of(lo, hi)) {
		return none
	}
	return of(lo, hi)
}

// sum is what Horner ought to be, from its last one on, by the words of the promise.
func sum(l []api.Iv, x api.Iv) api.Iv {
	if len(l) == 0 {
		return of(0, 0)
	}
	if len(l) == 1 {
		if !right(l[0]) {
			return none
		}
		return l[0]
	}
	rest := product(sum(l[1:], x), x)
	if !right(rest) || !right(l[0]) {
		return none
	}
	return bounded(rest.Lo+l[0].Lo, rest.Hi+l[0].Hi)
}

func TestExample(t *testing.T) {
	check(t, "the example of chapter 4", poly.Horner(wholes(1, 2, 3), point(2*one)), point(17*one))
}

// TestOfNone: nothing sums up to 0, whatever x is.
func TestOfNone(t *testing.T) {
	for _, x := range append(wrong(), xs()...) {
		check(t, "Horner of nil", poly.Horner(nil, x), of(0, 0))
		check(t, "Horner of an empty list", poly.Horner([]api.Iv{}, x), of(0, 0))
		check(t, "Horner of an empty list with spare room", poly.Horner(wholes(3, 4)[:0], x), of(0, 0))
	}
}

// TestOfOne: one is itself, whatever x is; None, if it is not right.
func TestOfOne(t *testing.T) {
	for _, x := range append(wrong(), xs()...) {
		for _, a := range xs() {
			check(t, "Horner of one", poly.Horner([]api.Iv{a}, x), a)
		}
		for _, a := range wrong() {
			check(t, "Horner of one that is not right", poly.Horner([]api.Iv{a}, x), none)
		}
	}
}

func TestOfMore(t *testing.T) {
	for _, c := range []struct {
		l       []api.Iv
		x, want api.Iv
	}{
		{wholes(5, 3), point(2 * one), point(11 * one)}, {wholes(5, -3), point(2 * one), point(-one)}, {wholes(5, 0), of(-most, most), point(5 * one)},
		{wholes(4, 3, 2, 1), point(-2 * one), point(-2 * one)}, {wholes(0, 0, 0, 0, 1), point(3 * one), point(81 * one)}, {wholes(7, 0, 0), point(9 * one), point(7 * one)},
		{wholes(0, 1), of(-one, 2*one), of(-one, 2*one)}, {wholes(1, 1), of(-one, 2*one), of(0, 3*one)},
		// x x is no square here: its signs are not known to be alike.
		{wholes(0, 0, 1), of(-one, 2*one), of(-2*one, 4*one)}, {wholes(0, 0, 1), of(-2*one, 2*one), of(-4*one, 4*one)}, {wholes(1, 0, -1), of(-one, one), of(0, 2*one)},
		{[]api.Iv{of(-one, one), of(2*one, 3*one)}, of(-2*one, one), of(-7*one, 4*one)},
		// From the last one on, (x - 1) x is narrower than x x and -x, each by itself.
		{wholes(0, -1, 1), of(0, one), of(-one, 0)}, {wholes(3, -2, 1), of(0, 2*one), of(-one, 3*one)},
		// Each product is rounded, down at its lower end and up at its upper one.
		{[]api.Iv{point(0), point(1)}, point(1), of(0, 1)}, {[]api.Iv{point(0), point(-1)}, point(1), of(-1, 0)}, {[]api.Iv{point(7), point(1)}, point(one - 1), of(7, 8)},
		{[]api.Iv{point(0), point(0), point(1)}, point(one / 2), of(0, 1)}, {[]api.Iv{point(0), point(0), point(3)}, point(one / 2), of(0, 1)}, {[]api.Iv{point(0), point(1), point(1)}, point(one / 2), of(0, 1)},
		{[]api.Iv{point(0), point(0), point(-3)}, point(one / 2), of(-1, 0)}, {[]api.Iv{point(0), point(0), point(5)}, point(one / 2), of(1, 2)},
		{[]api.Iv{point(0), point(0), point(one)}, point(21845), of(7281, 7282)}, {[]api.Iv{point(0), point(0), point(one)}, point(-21846), of(7282, 7283)},
	} {
		check(t, "Horner of more", poly.Horner(c.l, c.x), c.want)
	}
}

// TestOutOfBounds: where a product or a sum leaves the bounds there is nothing, though what follows would lead back.
func TestOutOfBounds(t *testing.T) {
	for _, c := range []struct {
		l       []api.Iv
		x, want api.Iv
	}{
		// A sum, at its bounds and past them.
		{[]api.Iv{point(most - 1), point(1)}, point(one), point(most)}, {[]api.Iv{point(most), point(1)}, point(one), none},
		{[]api.Iv{point(1 - most), point(-1)}, point(one), point(-most)}, {[]api.Iv{point(-most), point(-1)}, point(one), none},
		{[]api.Iv{of(0, most), of(-1, 0)}, point(one), of(-1, most)}, {[]api.Iv{of(0, most), of(-1, 1)}, point(one), none}, {[]api.Iv{of(-most, 0), of(-1, 1)}, point(one), none},
		{[]api.Iv{point(-most), point(most)}, point(one), point(0)},
		// A product, at its bounds and past them.
		{wholes(0, 8192), point(2 * one), point(most)}, {wholes(1, 9000), point(2 * one), none}, {wholes(-9000, 9000), point(2 * one), none}, {wholes(0, -8192), point(2 * one), point(-most)}, {wholes(-1, -8192), point(2 * one), none},
		{wholes(0, 8192), of(0, 2*one+1), none}, {wholes(0, 0, 1), of(0, 1<<23), of(0, most)}, {wholes(0, 0, 1), of(0, 1<<23+1), none}, {wholes(0, 0, 1), of(-1<<23-1, 0), none},
		{[]api.Iv{point(0), point(most)}, point(most), none}, {[]api.Iv{point(0), point(most)}, point(-most), none}, {[]api.Iv{point(0), of(-most, most)}, of(-most, most), none},
		// An inner one leaves them; an outer one would lead back.
		{wholes(1, 1, 9000), point(2 * one), none}, {wholes(1, -9000, 9000, 0), point(2 * one), none}, {wholes(0, 0, 0, 0, 0, 0, 1), point(8 * one), none}, {wholes(0, 0, 0, 0, 1), point(8 * one), point(4096 * one)},
		{[]api.Iv{point(0), point(most), point(most)}, point(one), none}, {[]api.Iv{point(0), point(most), point(1)}, of(0, one), none},
	} {
		check(t, "Horner that leaves the bounds", poly.Horner(c.l, c.x), c.want)
	}
}

// TestNotRight: where x, or one of two and more, is not right there is nothing, though it would count for 0.
func TestNotRight(t *testing.T) {
	for _, bad := range wrong() {
		for _, l := range lists() {
			if len(l) < 2 {
				continue
			}
			check(t, "Horner at what is not right", poly.Horner(l, bad), none)
			for k := range l {
				with := slices.Clone(l)
				with[k] = bad
				check(t, "Horner with one that is not right", poly.Horner(with, of(0, 0)), none)
				check(t, "Horner with one that is not right", poly.Horner(with, of(one, one)), none)
				check(t, "Horner with one that is not right, at another", poly.Horner(with, none), none)
			}
		}
		check(t, "Horner of nothings at what is not right", poly.Horner(wholes(5, 0), bad), none)
	}
}

// TestByItsWords holds lists of each length against the words of the promise.
func TestByItsWords(t *testing.T) {
	for _, l := range lists() {
		for _, x := range xs() {
			if got, want := poly.Horner(l, x), sum(l, x); got != want {
				t.Errorf("4.1: Horner(%+v, %+v) = %+v, not %+v", l, x, got, want)
			}
		}
	}
}

func checkSlope(t *testing.T, l, want []api.Iv) {
	t.Helper()
	if got := poly.Slope(l); !slices.Equal(got, want) {
		t.Errorf("4.1: Slope(%+v) = %+v, not %+v", l, got, want)
	}
}

func TestSlopeOfFew(t *testing.T) {
	checkSlope(t, nil, nil)
	checkSlope(t, []api.Iv{}, nil)
	checkSlope(t, wholes(1, 2, 3)[:0], nil)
	for _, a := range append(wrong(), xs()...) {
		checkSlope(t, []api.Iv{a}, nil)
		checkSlope(t, []api.Iv{a, point(one)}[:1], nil)
	}
}

func TestSlope(t *testing.T) {
	for _, c := range []struct{ l, want []api.Iv }{
		{wholes(7, 3), wholes(3)}, {wholes(7, 3, 2), wholes(3, 4)}, {wholes(1, 1, 1, 1, 1), wholes(1, 2, 3, 4)}, {wholes(0, 0, 0), wholes(0, 0)}, {wholes(5, -4, -3, -2), wholes(-4, -6, -6)},
		{[]api.Iv{of(-1, 1), of(-3, 5), of(-3, 5), of(-9, -7)}, []api.Iv{of(-3, 5), of(-6, 10), of(-27, -21)}},
		// The first one counts for nothing, right or not.
		{[]api.Iv{none, of(-3, 5)}, []api.Iv{of(-3, 5)}}, {[]api.Iv{of(5, 4), point(1), point(1)}, []api.Iv{point(1), point(2)}},
		// The bounds, and past them.
		{[]api.Iv{point(most), of(-most, most)}, []api.Iv{of(-most, most)}}, {[]api.Iv{point(0), point(most), point(most)}, []api.Iv{point(most), none}},
		{[]api.Iv{point(0), point(0), of(-most/2, most/2)}, []api.Iv{point(0), of(-most, most)}}, {[]api.Iv{point(0), point(0), of(0, most/2+1)}, []api.Iv{point(0), none}}, {[]api.Iv{point(0), point(0), of(-most/2-1, 0)}, []api.Iv{point(0), none}},
		{[]api.Iv{point(0), point(0), point(0), point(most / 3)}, []api.Iv{point(0), point(0), point(most - 1)}}, {[]api.Iv{point(0), point(0), point(0), point(most/3 + 1), point(1)}, []api.Iv{point(0), point(0), none, point(4)}},
		// Ones that are not right stand between others that are.
		{[]api.Iv{point(1), none, point(1)}, []api.Iv{none, point(2)}}, {append(wholes(7, 1), none, of(-3, 5)), []api.Iv{point(one), none, of(-9, 15)}},
	} {
		checkSlope(t, c.l, c.want)
	}
}

// TestSlopeOfNotRight: what is not right is None in its place; the others are as they are without it.
func TestSlopeOfNotRight(t *testing.T) {
	for _, bad := range wrong() {
		checkSlope(t, []api.Iv{point(1), bad}, []api.Iv{none})
		checkSlope(t, []api.Iv{bad, point(1), bad, point(1), bad}, []api.Iv{point(1), none, point(3), none})
	}
}

// TestSlopeByItsWords holds lists of each length against the words of the promise.
func TestSlopeByItsWords(t *testing.T) {
	for _, l := range lists() {
		var want []api.Iv
		for k, a := range l {
			if k > 0 {
				want = append(want, bounded(k*a.Lo, k*a.Hi))
			}
		}
		checkSlope(t, l, want)
	}
}

// TestLong: a long list is summed up, and has its slope, as a short one has (R1).
func TestLong(t *testing.T) {
	l := make([]api.Iv, 100000)
	for k := range l {
		l[k] = point(1)
	}
	check(t, "Horner of a long list, at 1", poly.Horner(l, point(one)), point(len(l)))
	check(t, "Horner of a long list, at 0", poly.Horner(l, point(0)), point(1))
	slope := poly.Slope(l)
	if len(slope) != len(l)-1 {
		t.Fatalf("4.1: Slope of %d has %d", len(l), len(slope))
	}
	for k, a := range slope {
		check(t, "Slope of a long list", a, point(k+1))
	}
}

// within are some whole numbers in a.
func within(a api.Iv) []int {
	return []int{a.Lo, a.Lo + (a.Hi-a.Lo)/3, a.Lo + (a.Hi-a.Lo)/2, a.Hi}
}

// steps is n / by, as a fraction that is exact.
func steps(n, by int) *big.Rat {
	return big.NewRat(int64(n), int64(by))
}

// exact is the sum of powers of numbers, in steps, each power reckoned by itself.
func exact(l []int, x int) *big.Rat {
	all, power := new(big.Rat), steps(1, 1)
	for _, n := range l {
		all.Add(all, new(big.Rat).Mul(steps(n, 1), power))
		power = new(big.Rat).Mul(power, steps(x, one))
	}
	return all
}

func holds(a api.Iv, r *big.Rat) bool {
	return steps(a.Lo, 1).Cmp(r) <= 0 && r.Cmp(steps(a.Hi, 1)) <= 0
}

// numbers are lists of numbers that lie in those of l, some for each.
func numbers(l []api.Iv) [][]int {
	var all [][]int
	for start := range 4 {
		// Of each the like one, and of each another than of the one ahead.
		var alike, mixed []int
		for k, a := range l {
			alike = append(alike, within(a)[start])
			mixed = append(mixed, within(a)[(start+k*3)%4])
		}
		all = append(all, alike, mixed)
	}
	return all
}

// slopes are the numbers' own slope.
func slopes(ns []int) []int {
	var l []int
	for k, n := range ns {
		if k > 0 {
			l = append(l, k*n)
		}
	}
	return l
}

// TestHeld: of numbers in the intervals the exact sum of powers lies in the answer, and so does its slope in Slope's (W1).
func TestHeld(t *testing.T) {
	said := 0
	for _, l := range lists() {
		slope := poly.Slope(l)
		for _, x := range xs() {
			value, rise := poly.Horner(l, x), poly.Horner(slope, x)
			for _, ns := range numbers(l) {
				for _, n := range within(x) {
					if !value.No && !holds(value, exact(ns, n)) {
						t.Errorf("W1: of %v at %d: %s is not in %+v", ns, n, exact(ns, n).RatString(), value)
					}
					if !rise.No && !holds(rise, exact(slopes(ns), n)) {
						t.Errorf("W1: the slope of %v at %d: %s is not in %+v", ns, n, exact(slopes(ns), n).RatString(), rise)
					}
				}
			}
			if !value.No {
				said++
			}
		}
	}
	// What says nothing holds anything: the test is one only while much is said.
	if said < 1000 {
		t.Errorf("W1: only %d sums say something", said)
	}
}

// lesser are some intervals that lie in a.
func lesser(a api.Iv) []api.Iv {
	ns := within(a)
	return []api.Iv{a, point(ns[0]), point(ns[1]), point(ns[3]), of(ns[0], ns[2]), of(ns[1], ns[3]), of(ns[1], ns[2])}
}

// TestLess: of less the sum, and the slope, lies in that of more, if that says something (W1).
func TestLess(t *testing.T) {
	for _, l := range lists() {
		for start := range 7 {
			var less []api.Iv
			for k, a := range l {
				less = append(less, lesser(a)[(start+k*2)%7])
			}
			for _, x := range xs() {
				more := poly.Horner(l, x)
				for _, part := range lesser(x) {
					if got := poly.Horner(less, part); !more.No && !iv.Inside(got, more) {
						t.Errorf("W1: Horner(%+v, %+v) = %+v, not in %+v", less, part, got, more)
					}
				}
			}
			more := poly.Slope(l)
			for k, got := range poly.Slope(less) {
				if !more[k].No && !iv.Inside(got, more[k]) {
					t.Errorf("W1: of less Slope's %d: %+v, not in %+v", k, got, more[k])
				}
			}
		}
	}
}

// TestKept: neither call changes what it is given, spare room included (R2).
func TestKept(t *testing.T) {
	for _, l := range append(lists(), wrong()) {
		room := append(slices.Clone(l), of(11, 12), none, of(13, 14))
		was := slices.Clone(room)
		given := room[:len(l)]
		for _, x := range append(xs(), none) {
			poly.Horner(given, x)
		}
		poly.Slope(given)
		if !slices.Equal(room, was) {
			t.Errorf("R2: %+v was turned into %+v", was, room)
		}
	}
}

// TestNewMemory: what Slope answers, and its spare room, is nobody else's (R2).
func TestNewMemory(t *testing.T) {
	for _, l := range append(lists(), wrong()) {
		room := append(slices.Clone(l), of(11, 12), of(13, 14))
		was := slices.Clone(room)
		given := room[:len(l)]
		first, second := poly.Slope(given), poly.Slope(given)
		want := slices.Clone(second)
		spoil(first)
		if !slices.Equal(room, was) || !slices.Equal(second, want) {
			t.Errorf("R2: Slope(%+v) shares memory", l)
		}
		spoil(room)
		if !slices.Equal(second, want) {
			t.Errorf("R2: Slope(%+v) kept what it was given", l)
		}
	}
}

// spoil writes over all of a list, its spare room too.
func spoil(l []api.Iv) {
	l = l[:cap(l)]
	for k := range l {
		l[k] = of(99, 99)
	}
}

// TestAsOften: the same is answered however often it is asked, whatever was asked between (R4).
func TestAsOften(t *testing.T) {
	l := wholes(1, 2, 3)
	for range 3 {
		check(t, "Horner, asked again", poly.Horner(l, point(2*one)), point(17*one))
		checkSlope(t, l, wholes(2, 6))
		poly.Horner(wrong(), none)
		poly.Slope(wrong())
	}
}

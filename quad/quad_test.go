package quad_test

import (
	"math"
	"math/big"
	"testing"

	"meniscus/api"
	"meniscus/iv"
	"meniscus/quad"
)

const (
	one  = api.One
	most = api.Most
)

var none = api.Iv{No: true}

func of(lo, hi int) api.Iv {
	return api.Iv{Lo: lo, Hi: hi}
}

func point(n int) api.Iv {
	return of(n, n)
}

// whole is a point of a whole number: One steps to each 1.
func whole(n int) api.Iv {
	return point(n * one)
}

// wrong are intervals that are not right: No, an end that is not In, Lo above Hi.
func wrong() []api.Iv {
	l := []api.Iv{
		none, {Lo: 1, Hi: 2, No: true}, {Lo: 0, Hi: one, No: true}, {Lo: most, Hi: most, No: true}, {Lo: 5, Hi: -5, No: true}, {Lo: math.MinInt, Hi: math.MaxInt, No: true},
		of(1, 0), of(0, -1), of(5, 4), of(most, -most), of(most, most-1), of(math.MaxInt, math.MinInt), of(math.MinInt, math.MaxInt),
	}
	for _, end := range []int{most + 1, -most - 1, 1 << 32, -1 << 32, 1 << 48, 1 << 62, math.MaxInt, math.MinInt, math.MinInt + 1} {
		l = append(l, of(end, end), of(min(0, end), max(0, end)), of(max(0, end), min(0, end)), of(-most, end), of(end, most))
	}
	return l
}

// some are intervals of all sizes, points and the bounds among them.
func some() []api.Iv {
	return []api.Iv{
		of(0, 0), of(1, 1), of(-1, -1), of(-1, 1), of(0, 1), of(one, one), of(-one, -one), of(-one, 2*one), of(2*one, 2*one), of(3*one, 5*one), of(-7*one, -one/3), of(-9*one, -8*one), of(one/2, one/2+3),
		of(-one/2-3, -one/2), of(-21845, 21846), of(257, 300), of(one-1, one+1), of(-one-1, 1-one), of(-8388609, -8388607), of(1000003, 1000004), of(-1000004, -1000003), of(-most, most), of(0, most), of(most, most), of(-most, -most), of(-most, 1-most),
	}
}

// told is what Near answers, in one.
type told struct {
	t  api.Iv
	is api.Tri
}

func near(a, b, c api.Iv) told {
	t, is := quad.Near(a, b, c)
	return told{t, is}
}

// root is what Near answers of one that is known.
func root(lo, hi int) told {
	return told{of(lo, hi), api.Yes}
}

var (
	no     = told{none, api.No}
	unsure = told{none, api.Unsure}
)

// one row of a table: what is asked, and what is to be answered.
type row struct {
	what    string
	a, b, c api.Iv
	want    told
}

func checkRows(t *testing.T, rows []row) {
	t.Helper()
	for _, r := range rows {
		if got := near(r.a, r.b, r.c); got != r.want {
			t.Errorf("6.1: %s: Near(%+v, %+v, %+v) = %+v, not %+v", r.what, r.a, r.b, r.c, got, r.want)
		}
	}
}

func TestExample(t *testing.T) {
	checkRows(t, []row{{"the example of chapter 6", whole(0), whole(-1), whole(-6), told{whole(-3), api.Yes}}})
}

// TestWhichRoot: of the two roots the one that is named, whatever the sign of a, b and c.
func TestWhichRoot(t *testing.T) {
	checkRows(t, []row{
		{"1 of 1 and 3", whole(1), whole(-2), whole(3), root(one, one)}, {"5 of 1 and 5", whole(-1), whole(3), whole(-5), root(5*one, 5*one)}, {"-5 of 1 and -5", whole(1), whole(2), whole(-5), root(-5*one, -5*one)},
		{"-1 of -1 and 5", whole(1), whole(-2), whole(-5), root(-one, -one)}, {"-3 of -1 and -3", whole(1), whole(2), whole(3), root(-3*one, -3*one)}, {"3 of 3 and -1", whole(-1), whole(1), whole(3), root(3*one, 3*one)},
		{"-1 of -1 and -3", whole(-1), whole(-2), whole(-3), root(-one, -one)}, {"1 of 1 and -3", whole(-1), whole(-1), whole(3), root(one, one)}, {"-2 of 2 and -2", whole(1), whole(0), whole(-4), root(-2*one, -2*one)}, {"2 of 2 and -2", whole(-1), whole(0), whole(4), root(2*one, 2*one)},
		{"0 of 0 and 6", whole(1), whole(-3), whole(0), root(0, 0)}, {"2, twice", whole(1), whole(-2), whole(4), root(2*one, 2*one)}, {"-2, twice", whole(1), whole(2), whole(4), root(-2*one, -2*one)},
		{"1/2 of 1/2 and 1", whole(2), point(-3 * one / 2), whole(1), root(one/2, one/2)},
	})
}

// TestOneRoot: with a of 0 there is one root, -c / (2 b), and it is told where b is below 0.
func TestOneRoot(t *testing.T) {
	checkRows(t, []row{
		{"a of 0", whole(0), whole(-1), whole(6), root(3*one, 3*one)}, {"a of 0, c below", whole(0), whole(-5), whole(-1), root(-6554, -6553)}, {"a of 0, c of 0", whole(0), whole(-1), whole(0), root(0, 0)},
		{"a of 0, c wide", whole(0), whole(-1), of(-2*one, 4*one), root(-one, 2*one)}, {"a of 0, b wide", whole(0), of(-2*one, -one), whole(12), root(3*one, 6*one)},
		// The square of so short a b is rounded: t is wide then, but it is told.
		{"a of 0, b of a step", whole(0), point(-1), point(1), root(255, one)}, {"a of 0, short b", whole(0), point(-255), point(3), root(384, 772)}, {"a of 0, b just long enough", whole(0), point(-256), point(3), root(384, 384)},
		{"a of 0, b above", whole(0), whole(1), whole(-6), unsure}, {"a of 0, b above and c of 0", whole(0), whole(5), whole(0), unsure}, {"a and b of 0", whole(0), whole(0), whole(1), unsure}, {"all of 0", whole(0), whole(0), whole(0), unsure}, {"a of 0, b on either side", whole(0), of(-one, one), whole(1), unsure},
		{"a about 0", of(-one, one), whole(-4), whole(12), root(84639, 131072)},
	})
}

// TestBelow: at d.Lo and d.Hi of 0 and of a step on either side. With a and b of one whole, d is 1 - c.
func TestBelow(t *testing.T) {
	of1 := func(what string, lo, hi int, want told) row {
		return row{what, whole(1), whole(-1), of(one-hi, one-lo), want}
	}
	checkRows(t, []row{
		of1("d of -1", -1, -1, no), of1("d of -2 to -1", -2, -1, no), of1("d far below", -5*one, -4*one, no), of1("d from far below to -1", -9*one, -1, no),
		of1("d of -1 to 0", -1, 0, unsure), of1("d of -2 to 0", -2, 0, unsure), of1("d of -1 to 1", -1, 1, unsure), of1("d from far below to 0", -9*one, 0, unsure), of1("d from -1 to far above", -1, 9*one, unsure), of1("d far on either side", -9*one, 9*one, unsure),
		of1("d of 0", 0, 0, root(one, one)), of1("d of 0 to 1", 0, 1, root(65280, one)), of1("d of 1", 1, 1, root(65280, 65280)), of1("d of 1 to 2", 1, 2, root(65173, 65280)), of1("d from 0 to far above", 0, 4*one, root(-3*one, one)),
		// d is rounded outward: what is below 0, or just 0, by less than a step can't be told from what isn't.
		{"d below 0 by less than a step", point(1), whole(0), point(1), unsure}, {"d of 0, rounded to -1 to 1", point(one + 1), point(-one - 1), point(one + 1), unsure}, {"d of b b, rounded to 0 to 1, less 1", point(1), point(-1), whole(1), unsure}, {"d above 1 by less than a step", point(1), whole(-1), point(-1), root(-1, 0)},
		{"no root at all", whole(1), whole(0), whole(4), no}, {"none of a below", whole(-1), whole(1), whole(-2), no}, {"none of b above", whole(1), whole(2), whole(5), no}, {"none of wide ones", of(one, 2*one), of(-one, one), of(2*one, 3*one), no},
	})
}

// TestDivided: where what is divided by has 0 in it, nothing is said, though d is 0 or above.
func TestDivided(t *testing.T) {
	checkRows(t, []row{
		{"q just b", whole(1), whole(2), whole(0), unsure}, {"q about b", whole(1), whole(2), of(-one, one), unsure}, {"q down to b", whole(1), whole(2), of(-one, 0), unsure}, {"q up to b", whole(1), whole(2), of(0, one), unsure}, {"q and b of 0", whole(1), whole(0), whole(0), unsure}, {"d of 0, b wide", whole(0), of(-one, 0), whole(1), unsure},
		// What is divided by ends at 0, or a step before it.
		{"by 0 to 2", whole(1), whole(1), of(-3, -1), unsure}, {"by -2 to 0", whole(1), whole(1), of(1, 2), unsure}, {"by -2 to -1", whole(1), whole(1), of(2, 3), root(-3*one, -one)}, {"by 256 to 573", whole(1), whole(0), of(-5, -1), root(-1280, -114)},
		{"q above b", whole(1), whole(2), of(-12*one, -5*one), root(-12*one, -163840)}, {"q below b", whole(1), whole(2), of(3*one, 4*one), root(-4*one, -3*one/2)},
	})
}

// TestBounds: where a number on the way leaves the bounds, nothing is said; at them it is.
func TestBounds(t *testing.T) {
	checkRows(t, []row{
		{"b b at the bounds", whole(0), whole(-128), whole(128), root(one/2, one/2)}, {"b b past the bounds", whole(0), point(-128*one - 1), whole(128), unsure}, {"b b far past the bounds", whole(0), point(-most), whole(1), unsure},
		{"a c past the bounds", whole(200), whole(0), whole(200), unsure}, {"a c past the bounds, below", whole(200), whole(-1), whole(-200), unsure}, {"b b and a c past the bounds, d not", whole(200), whole(-200), whole(200), unsure},
		{"d past the bounds", whole(1), whole(-100), whole(-10000), unsure}, {"d at the lower bound", whole(1), whole(0), point(most), no},
		{"d at the upper bound", whole(1), whole(0), point(-most), root(-128*one, -128*one)}, {"d a step past the bounds", whole(1), point(-256), point(-most), unsure},
		{"the quotient at the upper bound", whole(0), point(-256), point(most / 128), root(most, most)}, {"the quotient past the upper bound", whole(0), point(-256), point(most/128 + 1), unsure},
		{"the quotient at the lower bound", whole(0), point(-256), point(-most / 128), root(-most, -most)}, {"the quotient past the lower bound", whole(0), point(-256), point(-most/128 - 1), unsure},
	})
}

// TestWide: of intervals both ends go their way.
func TestWide(t *testing.T) {
	checkRows(t, []row{
		{"of a wide", of(0, one), whole(-2), whole(3), root(49152, one)}, {"of b wide", whole(1), of(-3*one, -2*one), whole(3), root(36078, one)}, {"of c wide", whole(1), whole(-2), of(0, 3*one), root(0, one)}, {"of c about 0", whole(1), whole(-2), of(-5*one, 3*one), root(-109227, one)},
		{"of all wide", of(-one, 0), whole(-2), of(0, one), root(0, 16384)},
	})
}

// said is what Near ought to answer, by the words of the promise.
func said(a, b, c api.Iv) told {
	d := iv.Sub(iv.Sqr(b), iv.Mul(a, c))
	if d.No {
		return unsure
	}
	if d.Hi < 0 {
		return no
	}
	if d.Lo < 0 {
		return unsure
	}
	t := iv.Div(c, iv.Sub(iv.Root(d), b))
	if t.No {
		return unsure
	}
	return told{t, api.Yes}
}

// TestWords: of all that can be handed in, right or not, the answer is by the words, and each time the same (R1, R4).
func TestWords(t *testing.T) {
	all := append(some(), wrong()...)
	for _, a := range all {
		for _, b := range all {
			for _, c := range all {
				want := said(a, b, c)
				for range 2 {
					if got := near(a, b, c); got != want {
						t.Errorf("6.1: Near(%+v, %+v, %+v) = %+v, not %+v", a, b, c, got, want)
					}
				}
			}
		}
	}
}

// TestWrong: where one of the three is not right, nothing is said, whatever the others are.
func TestWrong(t *testing.T) {
	for _, bad := range wrong() {
		checkRows(t, []row{
			{"a that is not right", bad, whole(-1), whole(-6), unsure}, {"b that is not right", whole(0), bad, whole(-6), unsure}, {"c that is not right", whole(0), whole(-1), bad, unsure},
			{"a that is not right, c of 0", bad, whole(-1), whole(0), unsure}, {"c that is not right, a of 0", whole(0), whole(1), bad, unsure}, {"b that is not right, beside no root", whole(1), bad, whole(4), unsure},
			{"a and b that are not right", bad, bad, whole(1), unsure}, {"b and c that are not right", whole(1), bad, bad, unsure}, {"a and c that are not right", bad, whole(1), bad, unsure}, {"none that is right", bad, bad, bad, unsure},
		})
	}
}

// TestTwoRoots: of a (t - m) (t - n), with a even, the lesser one is told where a is above 0, else the greater one; it is not by which one is named first, nor by b's sign.
func TestTwoRoots(t *testing.T) {
	for _, a := range []int{-6, -4, -2, 2, 4, 6} {
		for m := -4; m <= 4; m++ {
			for n := -4; n <= 4; n++ {
				b, c := -a*(m+n)/2, a*m*n
				r := min(m, n)
				if a < 0 {
					r = max(m, n)
				}
				want := root(r*one, r*one)
				if c == 0 && b >= 0 {
					want = unsure
				}
				if got := near(whole(a), whole(b), whole(c)); got != want {
					t.Errorf("6.1: of %d (t - %d) (t - %d): %+v, not %+v", a, m, n, got, want)
				}
			}
		}
	}
}

// within are some numbers in a.
func within(a api.Iv) []int {
	if a.Lo == a.Hi {
		return []int{a.Lo}
	}
	return []int{a.Lo, a.Lo + (a.Hi-a.Lo)/3, a.Hi}
}

func great(n int) *big.Int {
	return big.NewInt(int64(n))
}

func times(a, b *big.Int) *big.Int {
	return new(big.Int).Mul(a, b)
}

// signed is n times its own size: it rises as n does, and it is whole for roots of whole numbers too.
func signed(n *big.Int) *big.Int {
	return times(n, new(big.Int).Abs(n))
}

// numbers are three numbers of steps, and what their root is made of: the square of q, in steps of steps.
type numbers struct {
	a, b, c int
	square  *big.Int
}

func ofNumbers(a, b, c int) numbers {
	square := times(great(b), great(b))
	return numbers{a, b, c, square.Sub(square, times(great(a), great(c)))}
}

// divisor is the sign of q - b.
func (n numbers) divisor() int {
	return n.square.Cmp(signed(great(n.b)))
}

// against is the sign of end, in steps, less the root: that of end (q - b) - c, by the sign of q - b.
func (n numbers) against(end int) int {
	rest := times(great(n.c), great(one))
	rest.Add(rest, times(great(end), great(n.b)))
	return n.divisor() * times(signed(great(end)), n.square).Cmp(signed(rest))
}

// TestHeld: of numbers in a, b, c the exact root lies in t; where No is said, there is none of them that has one (6.2).
func TestHeld(t *testing.T) {
	yes, noes := 0, 0
	for _, a := range some() {
		for _, b := range some() {
			for _, c := range some() {
				got := near(a, b, c)
				if got.is == api.Unsure {
					continue
				}
				for _, x := range within(a) {
					for _, y := range within(b) {
						for _, z := range within(c) {
							checkHeld(t, got, ofNumbers(x, y, z), &yes, &noes)
						}
					}
				}
			}
		}
	}
	if yes < 5000 || noes < 5000 {
		t.Errorf("6.2: only %d numbers have a root, %d none", yes, noes)
	}
}

func checkHeld(t *testing.T, got told, n numbers, yes, noes *int) {
	t.Helper()
	if got.is == api.No {
		*noes++
		if n.square.Sign() >= 0 {
			t.Errorf("6.2: No, though %d, %d, %d have a root", n.a, n.b, n.c)
		}
		return
	}
	*yes++
	if n.square.Sign() < 0 || n.divisor() == 0 {
		t.Errorf("6.2: Yes, though %d, %d, %d have no root", n.a, n.b, n.c)
		return
	}
	if n.against(got.t.Lo) > 0 || n.against(got.t.Hi) < 0 {
		t.Errorf("6.2: %+v is without the root of %d, %d, %d", got.t, n.a, n.b, n.c)
	}
}

// TestHeldSharply: of numbers the ends of t lie as near to the root as rounding lets them, where none of them is short.
func TestHeldSharply(t *testing.T) {
	for a := -3 * one; a <= 3*one; a += one/2 + 77 {
		for b := -9 * one; b <= -5*one; b += one/3 + 5 {
			for c := -4 * one; c <= 4*one; c += one/4 + 13 {
				got, n := near(point(a), point(b), point(c)), ofNumbers(a, b, c)
				if got.is != api.Yes {
					t.Errorf("6.1: of %d, %d, %d: %+v", a, b, c, got)
					continue
				}
				if n.against(got.t.Lo) > 0 || n.against(got.t.Hi) < 0 {
					t.Errorf("6.2: %+v is without the root of %d, %d, %d", got.t, a, b, c)
				}
				if n.against(got.t.Lo-3) >= 0 || n.against(got.t.Hi+3) <= 0 || got.t.Hi-got.t.Lo > 3 {
					t.Errorf("6.1: %+v is far from the root of %d, %d, %d", got.t, a, b, c)
				}
			}
		}
	}
}

// lesser are some intervals that lie in a.
func lesser(a api.Iv) []api.Iv {
	third, half := a.Lo+(a.Hi-a.Lo)/3, a.Lo+(a.Hi-a.Lo)/2
	return []api.Iv{a, point(a.Lo), of(third, a.Hi), point(third), of(a.Lo, half), point(a.Hi), of(third, half)}
}

// TestLess: of less the root lies in the larger one's; what is Yes stays Yes, and what is No stays No (W1, W2).
func TestLess(t *testing.T) {
	yes, noes, surer := 0, 0, 0
	for _, a := range some() {
		for _, b := range some() {
			for _, c := range some() {
				more := near(a, b, c)
				for k := range 49 {
					less := near(lesser(a)[k%7], lesser(b)[k/7], lesser(c)[(k+k/7*3)%7])
					switch {
					case more.is == api.Unsure && less.is != api.Unsure:
						surer++
					case more.is == api.No:
						noes++
					case more.is == api.Yes:
						yes++
					}
					if more.is != api.Unsure && less.is != more.is {
						t.Errorf("W2: of (%+v, %+v, %+v) %+v, of less %+v", a, b, c, more, less)
					}
					if more.is == api.Yes && !iv.Inside(less.t, more.t) {
						t.Errorf("W1: of (%+v, %+v, %+v) %+v, of less %+v", a, b, c, more, less)
					}
				}
			}
		}
	}
	// Unsure says nothing of less: the test is one only while much is said.
	if yes < 5000 || noes < 5000 || surer < 5000 {
		t.Errorf("W1: only %d of Yes, %d of No, %d of Unsure that less is sure of", yes, noes, surer)
	}
}

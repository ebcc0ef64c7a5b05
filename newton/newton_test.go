package newton_test

import (
	"math"
	"slices"
	"testing"

	"meniscus/api"
	"meniscus/iv"
	"meniscus/newton"
)

const (
	one  = api.One
	most = api.Most
)

var none = api.Iv{No: true}

func of(lo, hi int) api.Iv {
	return api.Iv{Lo: lo, Hi: hi}
}

func point(n int) api.Iv {
	return of(n, n)
}

// whole is a point of a whole number: One steps to each 1.
func whole(n int) api.Iv {
	return point(n * one)
}

// wholes is from one whole number to another.
func wholes(lo, hi int) api.Iv {
	return of(lo*one, hi*one)
}

// wrong are intervals that are not right: No, an end that is not In, Lo above Hi.
func wrong() []api.Iv {
	l := []api.Iv{
		none, {Lo: 1, Hi: 2, No: true}, {Lo: 0, Hi: one, No: true}, {Lo: most, Hi: most, No: true}, {Lo: 5, Hi: -5, No: true}, {Lo: math.MinInt, Hi: math.MaxInt, No: true},
		of(1, 0), of(0, -1), of(5, 4), of(most, -most), of(most, most-1), of(math.MaxInt, math.MinInt), of(math.MinInt, math.MaxInt),
	}
	for _, end := range []int{most + 1, -most - 1, 1 << 32, -1 << 32, 1 << 48, 1 << 62, math.MaxInt, math.MinInt, math.MinInt + 1} {
		l = append(l, of(end, end), of(min(0, end), max(0, end)), of(max(0, end), min(0, end)), of(-most, end), of(end, most))
	}
	return l
}

// function is what Solve is given.
type function = func(t api.Iv) (value, slope api.Iv)

// told is what Solve answers, in one.
type told struct {
	t  api.Iv
	is api.Tri
}

func solve(f function, t api.Iv, most int) told {
	got, is := newton.Solve(f, t, most)
	return told{got, is}
}

// zero is what Solve answers of one that is known.
func zero(lo, hi int) told {
	return told{of(lo, hi), api.Yes}
}

var (
	no     = told{none, api.No}
	unsure = told{none, api.Unsure}
)

// ask is one call of f: what it is asked, and what it answers.
type ask struct {
	at, value, slope api.Iv
}

// to are the asks of a round on t whose n is lo to hi. What the round has no use for would lead elsewhere.
func to(t api.Iv, lo, hi int) []ask {
	m := (t.Lo + t.Hi) >> 1
	return []ask{{point(m), of(m-hi, m-lo), whole(-7)}, {t, wholes(1, 2), whole(1)}}
}

// blank are the asks of a round on t whose n is None: its slope has 0.
func blank(t api.Iv) []ask {
	return []ask{{point((t.Lo + t.Hi) >> 1), whole(1), whole(3)}, {t, whole(1), of(-1, 1)}}
}

// half is the ask of a half's value.
func half(t, value api.Iv) []ask {
	return []ask{{t, value, whole(5)}}
}

// play is a call of Solve, and each ask that it is to make, in its order.
type play struct {
	what string
	t    api.Iv
	most int
	asks [][]ask
	want told
}

func checkPlays(t *testing.T, plays []play) {
	t.Helper()
	for _, p := range plays {
		asks := slices.Concat(p.asks...)
		count := 0
		f := func(at api.Iv) (value, slope api.Iv) {
			count++
			if count > len(asks) {
				t.Errorf("7.1: %s: asked once more, at %+v", p.what, at)
				return none, none
			}
			a := asks[count-1]
			if at != a.at {
				t.Errorf("7.1: %s: ask %d at %+v, not %+v", p.what, count, at, a.at)
			}
			return a.value, a.slope
		}
		if got := solve(f, p.t, p.most); got != p.want {
			t.Errorf("7.1: %s: %+v, not %+v", p.what, got, p.want)
		}
		if count < len(asks) {
			t.Errorf("7.1: %s: asked %d times, not %d", p.what, count, len(asks))
		}
	}
}

// line is k t + c, k and c in steps.
func line(k, c api.Iv) function {
	return func(t api.Iv) (value, slope api.Iv) { return iv.Add(iv.Mul(k, t), c), k }
}

// square is k t t + c, k and c in steps.
func square(k, c api.Iv) function {
	return func(t api.Iv) (value, slope api.Iv) {
		return iv.Add(iv.Mul(k, iv.Sqr(t)), c), iv.Mul(k, iv.Times(t, 2))
	}
}

// TestExample: the example of chapter 7.
func TestExample(t *testing.T) {
	f := func(t api.Iv) (value, slope api.Iv) { return iv.Sub(t, iv.Whole(1)), iv.Whole(1) }
	if got := solve(f, wholes(0, 4), 20); got != zero(one, one) {
		t.Errorf("7.1: t - 1 on 0 to 4: %+v", got)
	}
}

// TestMost: how many rounds are done of how many are asked for. Each round here takes a step off t's top.
func TestMost(t *testing.T) {
	for _, c := range []struct{ most, rounds int }{
		{math.MinInt, 0}, {-api.MaxRounds, 0}, {-5, 0}, {-1, 0}, {0, 0}, {1, 1}, {2, 2}, {7, 7}, {39, 39}, {40, 40}, {41, 40}, {42, 40}, {80, 40}, {999, 40}, {1 << 32, 40}, {1<<32 + 1, 40}, {math.MaxInt, 40},
	} {
		var asked []api.Iv
		f := func(t api.Iv) (value, slope api.Iv) {
			asked = append(asked, t)
			if t.Lo == t.Hi {
				return of(t.Lo-199+len(asked)/2, t.Lo+1), none
			}
			return none, whole(1)
		}
		var want []api.Iv
		for k := range c.rounds {
			want = append(want, point((-1+200-k)>>1), of(-1, 200-k))
		}
		if got := solve(f, of(-1, 200), c.most); got != unsure {
			t.Errorf("7.1: most %d: %+v", c.most, got)
		}
		if !slices.Equal(asked, want) {
			t.Errorf("7.1: most %d: asked %+v, not %+v", c.most, asked, want)
		}
	}
}

// TestMostHalves: a round that leads to a half is one, too.
func TestMostHalves(t *testing.T) {
	for _, c := range []struct{ most, rounds int }{{-3, 0}, {0, 0}, {1, 1}, {5, 5}, {40, 40}, {41, 40}, {math.MaxInt, 40}} {
		for _, asks := range []int{3, 4} {
			count := 0
			f := func(at api.Iv) (value, slope api.Iv) {
				count++
				if asks == 3 || count%4 == 0 {
					return whole(1), whole(0)
				}
				return whole(0), whole(0)
			}
			if got := solve(f, wholes(-9000, 9000), c.most); got != unsure || count != asks*c.rounds {
				t.Errorf("7.1: most %d: %+v, asked %d times, not %d", c.most, got, count, asks*c.rounds)
			}
		}
	}
}

// TestEnough: at as many rounds as are needed the zero is told, at one less it is not.
func TestEnough(t *testing.T) {
	// Two rounds cut an end off, and only the third has both of its ends within.
	rounds := [][]ask{to(of(0, 100), -5, 80), to(of(0, 80), -1, 60), to(of(0, 60), 1, 59)}
	checkPlays(t, []play{
		{"none of three rounds", of(0, 100), 0, nil, unsure}, {"one of three", of(0, 100), 1, rounds[:1], unsure}, {"two of three", of(0, 100), 2, rounds[:2], unsure}, {"three of three", of(0, 100), 3, rounds, zero(1, 59)},
	})
}

// TestNothing: of a nil f, and of a t that is not right, nothing is said, and f is not asked.
func TestNothing(t *testing.T) {
	for _, n := range []int{-1, 0, 1, 20, 40, 1000} {
		for _, first := range append(wrong(), whole(0), whole(1), wholes(0, 4), of(-most, most)) {
			if got := solve(nil, first, n); got != unsure {
				t.Errorf("7.1: nil on %+v: %+v", first, got)
			}
		}
		for _, first := range wrong() {
			checkPlays(t, []play{{"a t that is not right", first, n, nil, unsure}})
		}
	}
}

// TestRound: of each round m is the middle of t, floored, v the value at m, s the slope at t, and n is m less v by s.
func TestRound(t *testing.T) {
	f := func(first, m, value, slope api.Iv) [][]ask {
		return [][]ask{{{m, value, of(-1, 1)}, {first, none, slope}}}
	}
	checkPlays(t, []play{
		{"v less m", wholes(0, 4), 1, f(wholes(0, 4), whole(2), whole(1), whole(1)), zero(one, one)},
		{"v below 0", wholes(0, 4), 1, f(wholes(0, 4), whole(2), whole(-1), whole(1)), zero(3*one, 3*one)},
		{"v of 0", wholes(0, 4), 1, f(wholes(0, 4), whole(2), whole(0), whole(1)), zero(2*one, 2*one)},
		{"s of 4", wholes(0, 4), 1, f(wholes(0, 4), whole(2), whole(1), whole(4)), zero(7*one/4, 7*one/4)},
		{"s below 0", wholes(0, 4), 1, f(wholes(0, 4), whole(2), whole(1), whole(-1)), zero(3*one, 3*one)},
		{"v by s, rounded outward", wholes(0, 4), 1, f(wholes(0, 4), whole(2), whole(1), whole(3)), zero(2*one-21846, 2*one-21845)},
		{"of both below 0, rounded outward", wholes(0, 4), 1, f(wholes(0, 4), whole(2), whole(-1), whole(-3)), zero(2*one-21846, 2*one-21845)},
		{"of a s below 0, rounded outward", wholes(0, 4), 1, f(wholes(0, 4), whole(2), whole(1), whole(-3)), zero(2*one+21845, 2*one+21846)},
		{"s wide", wholes(0, 4), 1, f(wholes(0, 4), whole(2), whole(1), wholes(1, 4)), zero(one, 7*one/4)},
		{"v wide", wholes(0, 4), 1, f(wholes(0, 4), whole(2), of(-one, one/2), whole(1)), zero(3*one/2, 3*one)},
		{"both wide", wholes(0, 4), 1, f(wholes(0, 4), whole(2), of(-one, one/2), wholes(1, 2)), zero(3*one/2, 3*one)},
		{"a middle that is floored", of(0, 5), 1, f(of(0, 5), point(2), point(1), whole(1)), zero(1, 1)},
		{"a middle below 0 that is floored", of(-5, 0), 1, f(of(-5, 0), point(-3), point(1), whole(1)), zero(-4, -4)},
		{"a middle about 0 that is floored", of(-4, 3), 1, f(of(-4, 3), point(-1), point(1), whole(1)), zero(-2, -2)},
		{"at both bounds", of(-most, most), 1, f(of(-most, most), point(0), whole(9), whole(1)), zero(-9*one, -9*one)},
		{"at the upper bound", of(most-4, most), 1, f(of(most-4, most), point(most-2), point(1), whole(1)), zero(most-3, most-3)},
		{"at the lower bound", of(-most, 4-most), 1, f(of(-most, 4-most), point(2-most), point(1), whole(1)), zero(1-most, 1-most)},
		{"a s of a step", of(-most, most), 1, f(of(-most, most), point(0), point(1), point(1)), zero(-one, -one)},
	})
}

// TestNoZero: where t and n have nothing in common there is no zero, and nothing more is asked.
func TestNoZero(t *testing.T) {
	first := of(0, 100)
	checkPlays(t, []play{
		{"n above", first, 9, [][]ask{to(first, 101, 101)}, no}, {"n below", first, 9, [][]ask{to(first, -1, -1)}, no}, {"n far above", first, 9, [][]ask{to(first, most/2, most/2+9)}, no}, {"n far below", first, 9, [][]ask{to(first, -most/2, -5)}, no}, {"n above a point", point(7), 9, [][]ask{to(point(7), 8, 9)}, no}, {"n below a point", point(7), 9, [][]ask{to(point(7), 2, 6)}, no},
		{"n at the upper bound", first, 9, [][]ask{to(first, most, most)}, no}, {"n at the lower bound", first, 9, [][]ask{to(first, 50-most, 50-most)}, no},
		// An end in common is something.
		{"n from t's top on", first, 1, [][]ask{to(first, 100, 120)}, unsure}, {"n up to t's foot", first, 1, [][]ask{to(first, -20, 0)}, unsure}, {"n up to the foot, then above", first, 2, [][]ask{to(first, -20, 0), to(of(0, 0), 1, 1)}, no},
		{"in a later round", first, 9, [][]ask{to(first, -5, 30), to(of(0, 30), 31, 100)}, no}, {"in the last round", first, 2, [][]ask{to(first, -5, 30), to(of(0, 30), -9, -1)}, no}, {"in a half", first, 9, [][]ask{blank(first), half(of(0, 50), whole(1)), to(of(50, 100), 0, 49)}, no},
		// What was sure is no more, if f is no function.
		{"after it was sure", first, 9, [][]ask{to(first, 1, 99), to(of(1, 99), 0, 0)}, no},
	})
}

// TestSure: n lies within t, with both ends apart from t's.
func TestSure(t *testing.T) {
	first := of(0, 100)
	checkPlays(t, []play{
		{"both ends a step within", first, 1, [][]ask{to(first, 1, 99)}, zero(1, 99)}, {"far within", first, 1, [][]ask{to(first, 40, 40)}, zero(40, 40)}, {"just the middle", first, 1, [][]ask{to(first, 50, 50)}, zero(50, 50)},
		{"an equal foot", first, 1, [][]ask{to(first, 0, 99)}, unsure}, {"an equal top", first, 1, [][]ask{to(first, 1, 100)}, unsure}, {"a foot below", first, 1, [][]ask{to(first, -1, 99)}, unsure}, {"a top above", first, 1, [][]ask{to(first, 1, 101)}, unsure},
		{"a point at the foot", first, 1, [][]ask{to(first, 0, 0)}, unsure}, {"a point at the top", first, 1, [][]ask{to(first, 100, 100)}, unsure}, {"a point a step above the foot", first, 1, [][]ask{to(first, 1, 1)}, zero(1, 1)}, {"a point a step below the top", first, 1, [][]ask{to(first, 99, 99)}, zero(99, 99)},
		{"far out at the foot", first, 1, [][]ask{to(first, -most/2, 50)}, unsure}, {"far out at the top", first, 1, [][]ask{to(first, 50, most/2)}, unsure},
		{"of 0 to 2 the middle", of(0, 2), 1, [][]ask{to(of(0, 2), 1, 1)}, zero(1, 1)}, {"of 0 to 1 no middle", of(0, 1), 1, [][]ask{to(of(0, 1), 0, 0)}, unsure},
		// It is t as it stands that counts: not the first one, nor both ends in two rounds.
		{"within t, though not at once", first, 2, [][]ask{to(first, -5, 90), to(of(0, 90), 20, 80)}, zero(20, 80)}, {"within the first t alone", first, 2, [][]ask{to(first, -5, 60), to(of(0, 60), 1, 99)}, unsure}, {"each end within once", first, 2, [][]ask{to(first, 10, 110), to(of(10, 100), 5, 90)}, unsure}, {"within t but for the new foot", first, 2, [][]ask{to(first, 10, 110), to(of(10, 100), 10, 90)}, unsure},
	})
}

// TestSureFromThenOn: what is sure stays so, in later rounds and through halves.
func TestSureFromThenOn(t *testing.T) {
	first := of(0, 100)
	sure := to(first, 10, 90)
	checkPlays(t, []play{
		{"then a foot below", first, 2, [][]ask{sure, to(of(10, 90), 0, 80)}, zero(10, 80)}, {"then a top above", first, 2, [][]ask{sure, to(of(10, 90), 20, 95)}, zero(20, 90)}, {"then both ends out, which ends it", first, 9, [][]ask{sure, to(of(10, 90), 0, 95)}, zero(10, 90)}, {"then just t, which ends it", first, 9, [][]ask{sure, to(of(10, 90), 10, 90)}, zero(10, 90)},
		{"then a foot of 3 rounds", first, 4, [][]ask{sure, to(of(10, 90), 0, 80), to(of(10, 80), 0, 70), to(of(10, 70), 0, 60)}, zero(10, 60)}, {"then a point, which ends it a round later", first, 9, [][]ask{sure, to(of(10, 90), 33, 33), to(point(33), 33, 33)}, zero(33, 33)},
		{"then the half behind", first, 2, [][]ask{sure, blank(of(10, 90)), half(of(10, 50), whole(1))}, zero(50, 90)}, {"then the half ahead", first, 2, [][]ask{sure, blank(of(10, 90)), half(of(10, 50), whole(0)), half(of(50, 90), whole(1))}, zero(10, 50)},
		{"then a half, and a foot below", first, 3, [][]ask{sure, blank(of(10, 90)), half(of(10, 50), whole(1)), to(of(50, 90), 0, 80)}, zero(50, 80)}, {"then two halves", first, 3, [][]ask{sure, blank(of(10, 90)), half(of(10, 50), whole(1)), blank(of(50, 90)), half(of(50, 70), whole(0)), half(of(70, 90), whole(-1))}, zero(50, 70)},
		{"then no half", first, 9, [][]ask{sure, blank(of(10, 90)), half(of(10, 50), whole(0)), half(of(50, 90), whole(0))}, unsure},
		{"in a half", first, 2, [][]ask{blank(first), half(of(0, 50), whole(1)), to(of(50, 100), 51, 99)}, zero(51, 99)}, {"in a half but for its foot", first, 2, [][]ask{blank(first), half(of(0, 50), whole(1)), to(of(50, 100), 50, 99)}, unsure}, {"in a half ahead", first, 2, [][]ask{blank(first), half(of(0, 50), whole(0)), half(of(50, 100), whole(1)), to(of(0, 50), 20, 30)}, zero(20, 30)}, {"in a half ahead but for its top", first, 2, [][]ask{blank(first), half(of(0, 50), whole(0)), half(of(50, 100), whole(1)), to(of(0, 50), 20, 50)}, unsure},
	})
}

// TestRoundsEnd: where t has all within n already, no more is asked.
func TestRoundsEnd(t *testing.T) {
	first := of(0, 100)
	checkPlays(t, []play{
		{"just t", first, 9, [][]ask{to(first, 0, 100)}, unsure}, {"more than t", first, 9, [][]ask{to(first, -7, 300)}, unsure}, {"more at the foot alone", first, 9, [][]ask{to(first, -7, 100)}, unsure}, {"more at the top alone", first, 9, [][]ask{to(first, 0, 101)}, unsure}, {"a t that is the zero itself", point(7), 9, [][]ask{to(point(7), 7, 7)}, unsure}, {"a t in n", point(7), 9, [][]ask{to(point(7), 0, 9)}, unsure},
		{"a step less at the foot", first, 9, [][]ask{to(first, 1, 100), to(of(1, 100), 1, 100)}, unsure}, {"a step less at the top", first, 9, [][]ask{to(first, 0, 99), to(of(0, 99), 0, 99)}, unsure}, {"sure, then t", first, 9, [][]ask{to(first, 1, 99), to(of(1, 99), 0, 100)}, zero(1, 99)},
		{"at a half", first, 9, [][]ask{blank(first), half(of(0, 50), whole(1)), to(of(50, 100), 50, 100)}, unsure},
	})
}

// TestHalves: where n is None: the half beside one whose value is right and has not 0, the first one ahead of the other; f is asked at that other one only where the first does not decide.
func TestHalves(t *testing.T) {
	first := of(0, 100)
	a, b := of(0, 50), of(50, 100)
	behind := [][]ask{blank(first), half(a, whole(1)), to(b, 51, 99)}
	checkPlays(t, []play{
		{"a above 0", first, 2, behind, zero(51, 99)}, {"a below 0", first, 2, [][]ask{blank(first), half(a, whole(-1)), to(b, 51, 99)}, zero(51, 99)}, {"a a step above 0", first, 2, [][]ask{blank(first), half(a, of(1, one)), to(b, 51, 99)}, zero(51, 99)}, {"a a step below 0", first, 2, [][]ask{blank(first), half(a, of(-one, -1)), to(b, 51, 99)}, zero(51, 99)},
		{"b above 0", first, 2, [][]ask{blank(first), half(a, of(-1, 1)), half(b, whole(1)), to(a, 1, 49)}, zero(1, 49)}, {"b below 0", first, 2, [][]ask{blank(first), half(a, of(0, 1)), half(b, of(-5, -1)), to(a, 1, 49)}, zero(1, 49)}, {"b, with a of 0", first, 2, [][]ask{blank(first), half(a, of(-1, 0)), half(b, of(1, 5)), to(a, 1, 49)}, zero(1, 49)},
		{"neither", first, 9, [][]ask{blank(first), half(a, of(-1, 1)), half(b, of(-1, 1))}, unsure}, {"neither, from 0 on", first, 9, [][]ask{blank(first), half(a, of(0, 1)), half(b, of(0, 1))}, unsure}, {"neither, up to 0", first, 9, [][]ask{blank(first), half(a, of(-1, 0)), half(b, of(-1, 0))}, unsure}, {"neither, of 0", first, 9, [][]ask{blank(first), half(a, whole(0)), half(b, whole(0))}, unsure},
		{"neither, in a later round", first, 9, [][]ask{blank(first), half(a, whole(1)), blank(b), half(of(50, 75), whole(0)), half(of(75, 100), whole(0))}, unsure},
		{"a floored middle", of(-5, 0), 2, [][]ask{blank(of(-5, 0)), half(of(-5, -3), whole(1)), to(of(-3, 0), -2, -1)}, zero(-2, -1)}, {"a floored middle, ahead", of(-5, 0), 2, [][]ask{blank(of(-5, 0)), half(of(-5, -3), whole(0)), half(of(-3, 0), whole(1)), to(of(-5, -3), -4, -4)}, zero(-4, -4)},
		{"of 0 to 1", of(0, 1), 2, [][]ask{blank(of(0, 1)), half(of(0, 0), whole(1)), to(of(0, 1), 0, 1)}, unsure}, {"of a point", point(7), 2, [][]ask{blank(point(7)), half(point(7), whole(1)), to(point(7), 7, 7)}, unsure}, {"of a point, neither", point(7), 9, [][]ask{blank(point(7)), half(point(7), whole(0)), half(point(7), whole(0))}, unsure},
		{"all there is", of(-most, most), 2, [][]ask{blank(of(-most, most)), half(of(-most, 0), whole(1)), to(of(0, most), 1, most-1)}, zero(1, most-1)},
		{"no rounds behind", first, 1, [][]ask{blank(first), half(a, whole(1))}, unsure},
	})
}

// TestNoneOnTheWay: each way in which n is None leads to the halves.
func TestNoneOnTheWay(t *testing.T) {
	first := of(0, 100)
	rest := [][]ask{half(of(0, 50), whole(1)), to(of(50, 100), 51, 99)}
	for _, c := range []struct {
		what         string
		value, slope api.Iv
	}{
		{"a slope of 0", whole(1), whole(0)}, {"a slope about 0", whole(1), wholes(-1, 1)}, {"a slope from 0 on", whole(1), wholes(0, 1)}, {"a slope up to 0", whole(1), wholes(-1, 0)}, {"a slope of 0, value of 0", whole(0), whole(0)},
		{"a quotient that is no number", whole(1), point(1)}, {"a quotient that is none at one end", of(1, one), point(1)}, {"n a step above the upper bound", point(49 - most), whole(1)}, {"n above the upper bound at one end", of(49-most, 0), whole(1)}, {"n far above the upper bound", point(-most), whole(1)},
	} {
		round := []ask{{point(50), c.value, whole(1)}, {first, whole(1), c.slope}}
		checkPlays(t, []play{{c.what, first, 2, append([][]ask{round}, rest...), zero(51, 99)}})
	}
}

// TestWrongAnswers: what f answers that is not right is none: as a value at m, or a slope at t, n is None by it; a half is not known by it to have no zero.
func TestWrongAnswers(t *testing.T) {
	first := of(0, 100)
	rest := [][]ask{half(of(0, 50), whole(1)), to(of(50, 100), 51, 99)}
	for _, bad := range wrong() {
		checkPlays(t, []play{
			{"a value that is not right", first, 2, append([][]ask{{{point(50), bad, whole(1)}, {first, whole(1), whole(1)}}}, rest...), zero(51, 99)},
			{"a slope that is not right", first, 2, append([][]ask{{{point(50), whole(1), whole(1)}, {first, whole(1), bad}}}, rest...), zero(51, 99)},
			{"neither is right", first, 2, append([][]ask{{{point(50), bad, bad}, {first, bad, bad}}}, rest...), zero(51, 99)},
			{"what has no use is not right", first, 1, [][]ask{{{point(50), point(9), bad}, {first, bad, whole(1)}}}, zero(41, 41)},
			{"a's value is not right", first, 2, [][]ask{blank(first), half(of(0, 50), bad), half(of(50, 100), whole(1)), to(of(0, 50), 1, 49)}, zero(1, 49)},
			{"b's value is not right", first, 9, [][]ask{blank(first), half(of(0, 50), whole(0)), half(of(50, 100), bad)}, unsure},
			{"neither half's is right", first, 9, [][]ask{blank(first), half(of(0, 50), bad), half(of(50, 100), bad)}, unsure},
			{"a half's slope is not right", first, 2, [][]ask{blank(first), {{of(0, 50), whole(1), bad}}, to(of(50, 100), 51, 99)}, zero(51, 99)},
			{"nothing is right", first, 9, [][]ask{{{point(50), bad, bad}, {first, bad, bad}, {of(0, 50), bad, bad}, {of(50, 100), bad, bad}}}, unsure},
			{"nothing is right any more", first, 9, [][]ask{to(first, 1, 99), {{point(50), bad, bad}, {of(1, 99), bad, bad}, {of(1, 50), bad, bad}, {of(50, 99), bad, bad}}}, unsure},
		})
	}
}

// said is what Solve ought to answer, and ask, by the words of the promise.
func said(f function, t api.Iv, most int) (told, []api.Iv) {
	var asked []api.Iv
	at := func(t api.Iv) (value, slope api.Iv) {
		asked = append(asked, t)
		return f(t)
	}
	sure := false
	for rounds := max(0, min(most, 40)); rounds > 0; rounds-- {
		m := point((t.Lo + t.Hi) >> 1)
		v, _ := at(m)
		_, s := at(t)
		n := iv.Sub(m, iv.Div(v, s))
		if n.No {
			a, b := of(t.Lo, m.Lo), of(m.Lo, t.Hi)
			if v, _ := at(a); iv.Right(v) && (v.Lo > 0 || v.Hi < 0) {
				t = b
			} else if v, _ := at(b); iv.Right(v) && (v.Lo > 0 || v.Hi < 0) {
				t = a
			} else {
				return unsure, asked
			}
			continue
		}
		if n.Lo > t.Lo && n.Hi < t.Hi {
			sure = true
		}
		if n.Lo > t.Hi || n.Hi < t.Lo {
			return no, asked
		}
		u := of(max(n.Lo, t.Lo), min(n.Hi, t.Hi))
		if u == t {
			break
		}
		t = u
	}
	if sure {
		return told{t, api.Yes}, asked
	}
	return unsure, asked
}

// strew is a number below n, as good as any, by where it is asked for.
func strew(seed int, t api.Iv, n int) int {
	x := uint64(seed)*0x9e3779b97f4a7c15 ^ uint64(t.Lo)*0xbf58476d1ce4e5b9 ^ uint64(t.Hi)*0x94d049bb133111eb
	x ^= x >> 31
	x *= 0xd6e8feb86659fd93
	x ^= x >> 29
	x *= 0x9e3779b97f4a7c15
	return int((x >> 33) % uint64(n))
}

// strewn answers whatever it likes, but of one t always the same: what goes mostly down to narrow ts, what is often None, what has 0 or has it not.
func strewn(seed int) function {
	return func(t api.Iv) (value, slope api.Iv) {
		pick := func(k, n int) int { return strew(seed*1000+k, t, n) }
		width := t.Hi - t.Lo + 2
		lo := pick(0, width) - width/2
		value, slope = of(lo, lo+pick(1, width)), of(one-pick(2, one), one+pick(3, 9*one))
		if t.Lo == t.Hi {
			foot := pick(4, 300*one) - 180*one
			value = of(foot, foot+pick(5, 100*one))
		}
		switch pick(6, 12) {
		case 0:
			slope = of(-pick(7, one), pick(8, one))
		case 1:
			slope = iv.Neg(slope)
		case 2:
			value = wrong()[pick(9, len(wrong()))]
		case 3:
			slope = wrong()[pick(10, len(wrong()))]
		case 4:
			value = whole(pick(11, 3) - 1)
		}
		return value, slope
	}
}

// TestWords: of functions that answer anything, both the answer and what is asked are by the words, and each time the same (R1, R4).
func TestWords(t *testing.T) {
	ways := map[api.Tri]int{}
	for seed := range 20000 {
		first := of(-strew(seed, point(1), 100*one), strew(seed, point(2), 100*one))
		n := strew(seed, point(3), 45) - 2
		f := strewn(seed)
		want, asks := said(f, first, n)
		ways[want.is]++
		for range 2 {
			var asked []api.Iv
			got := solve(func(t api.Iv) (value, slope api.Iv) {
				asked = append(asked, t)
				return f(t)
			}, first, n)
			if got != want {
				t.Errorf("7.1: of %d: Solve(%+v, %d) = %+v, not %+v", seed, first, n, got, want)
			}
			if !slices.Equal(asked, asks) {
				t.Errorf("7.1: of %d: asked %+v, not %+v", seed, asked, asks)
			}
		}
	}
	if ways[api.Yes] < 500 || ways[api.No] < 500 || ways[api.Unsure] < 500 {
		t.Errorf("7.1: only %v", ways)
	}
}

// TestAnything: of all that f may answer, right or not, Solve ends and does not panic (R1).
func TestAnything(t *testing.T) {
	all := append(wrong(), whole(0), whole(1), of(-1, 1), of(0, 1), of(1, 2), of(-most, most), of(most, most), of(-most, -most), of(1, most), of(-most, -1), point(1), point(-1))
	for _, v := range all {
		for _, s := range all {
			for _, first := range append(all, of(most-1, most), of(-most, 1-most), wholes(-3, 5)) {
				f := func(t api.Iv) (value, slope api.Iv) { return v, s }
				got := solve(f, first, math.MaxInt)
				if !iv.Right(first) && got != unsure {
					t.Errorf("7.1: %+v, %+v on %+v: %+v", v, s, first, got)
				}
				if got.is == api.Yes && !iv.Inside(got.t, first) || got.is != api.Yes && got.t != none {
					t.Errorf("7.1: %+v, %+v on %+v: %+v", v, s, first, got)
				}
			}
		}
	}
}

// curve is a function: what encloses it, what it is at a step, in whole numbers without any rounding (its size aside), and where it turns.
type curve struct {
	what  string
	f     function
	at    func(t int) int
	turns []int
}

// lineOf is k t + c, k and c in steps.
func lineOf(k, c int) curve {
	return curve{"a line", line(point(k), point(c)), func(t int) int { return k*t + c*one }, nil}
}

// squareOf is k t t + c, k a whole number and c in steps.
func squareOf(k, c int) curve {
	return curve{"a square", square(whole(k), point(c)), func(t int) int { return k*t*t + c*one }, []int{0}}
}

// cubeOf is k (t t t - 3 t) + c, k a whole number and c in steps.
func cubeOf(k, c int) curve {
	f := func(t api.Iv) (value, slope api.Iv) {
		value = iv.Mul(iv.Sub(iv.Sqr(t), whole(3)), t)
		slope = iv.Sub(iv.Times(iv.Sqr(t), 3), whole(3))
		return iv.Add(iv.Times(value, k), point(c)), iv.Times(slope, k)
	}
	return curve{"a cube", f, func(t int) int { return k*(t*t*t-3*one*one*t) + c*one*one }, []int{-one, one}}
}

// sign is -1, 0 or 1.
func sign(n int) int {
	return min(max(n, -1), 1)
}

// zeros is how many zeros c has in t: between one turn and the next it has one where its signs are unlike.
func (c curve) zeros(t api.Iv) int {
	marks := []int{t.Lo}
	for _, turn := range append(c.turns, t.Hi) {
		if marks[len(marks)-1] < turn && turn <= t.Hi {
			marks = append(marks, turn)
		}
	}
	count := 0
	for k, mark := range marks {
		if c.at(mark) == 0 {
			count++
		}
		if k > 0 && sign(c.at(mark))*sign(c.at(marks[k-1])) < 0 {
			count++
		}
	}
	return count
}

// firsts are ts to look for a zero in: of all sizes, with z within, at an end, a step beside it, and away from it.
func firsts(z int) []api.Iv {
	return []api.Iv{
		of(z-9*one/8, z+one), of(z-5*one, z+4*one), of(z-one/7, z+3*one), of(z-one, z+one/9), of(z-3, z+3), of(z-1, z+1), of(z, z), of(z, z+1), of(z-1, z), of(z, z+2*one), of(z-2*one, z),
		of(z+1, z+2*one), of(z-2*one, z-1), of(z-1, z+2*one), of(z-2*one, z+1), of(z+1, z+1), of(z-1, z-1), of(z-4*one, z-one/5), of(z+one/5, z+4*one), of(z+5, z+77), wholes(-6, 6), of(-6*one-5, 6*one+77), wholes(0, 6), wholes(-6, 0), of(1, 5*one), of(-5*one, -1), of(-one/2, 6*one), of(-6*one, one/3), wholes(1, 2), wholes(-1, 1), of(0, 0), of(-1, 1),
	}
}

// tally counts what is told.
type tally map[string]int

// check holds what Solve says of a curve on t against the curve's own zeros.
func (n tally) check(t *testing.T, c curve, first api.Iv, most int) told {
	t.Helper()
	got, zeros := solve(c.f, first, most), c.zeros(first)
	switch {
	case got.is == api.No:
		n["No"]++
		if zeros != 0 {
			t.Errorf("7.2: %s on %+v: No, though it has %d zeros", c.what, first, zeros)
		}
	case got.is == api.Yes:
		n["Yes"]++
		if c.at(got.t.Lo) != 0 && c.at(got.t.Hi) != 0 {
			n["Yes, of a zero that is not whole"]++
		}
		if c.at(got.t.Hi) < c.at(got.t.Lo) {
			n["Yes, downward"]++
		}
		if zeros != 1 || c.zeros(got.t) != 1 || !iv.Inside(got.t, first) {
			t.Errorf("7.2: %s on %+v: %+v, though it has %d zeros, %d of them there", c.what, first, got.t, zeros, c.zeros(got.t))
		}
	default:
		n["Unsure"]++
	}
	return got
}

// all asks that of each kind some have been told: a test that finds nothing is none.
func (n tally) all(t *testing.T, least int) {
	t.Helper()
	for _, kind := range []string{"Yes", "No", "Unsure", "Yes, of a zero that is not whole", "Yes, downward"} {
		if n[kind] < least {
			t.Errorf("7.2: only %d of %s", n[kind], kind)
		}
	}
}

// rounds are some numbers of them.
func rounds() []int {
	return []int{0, 1, 2, 3, 5, 20, 40, 99}
}

// TestLines: Yes means just one zero, which lies in the answer; No means none (7.2).
func TestLines(t *testing.T) {
	n := tally{}
	for _, k := range []int{one, -one, 3 * one, -3 * one, 7*one + 13, -2*one - 1, one / 3, -one / 3, 77, -77, 1, -1, 0} {
		for _, c := range []int{0, one, -one, 4 * one, -3 * one, 1, -1, one/2 + 7, -one/3 - 5, 5 * k, -2 * k} {
			z := 0
			if k != 0 {
				z = -c * one / k
			}
			for _, first := range firsts(z) {
				for _, most := range rounds() {
					n.check(t, lineOf(k, c), first, most)
				}
			}
		}
	}
	n.all(t, 500)
}

// TestSquares: Yes means just one zero, which lies in the answer; No means none (7.2).
func TestSquares(t *testing.T) {
	n := tally{}
	for _, k := range []int{1, -1, 3, -2} {
		for _, c := range []int{0, 1, -1, one, -one, 2 * one, -2 * one, 4 * one, -4 * one, 9 * one, -9 * one, 12 * one, -27 * one, -one / 4, one / 4, -5*one - 7, 3*one + 1} {
			z := int(math.Sqrt(math.Abs(float64(c*one) / float64(k))))
			for _, first := range append(firsts(z), firsts(-z)...) {
				for _, most := range rounds() {
					n.check(t, squareOf(k, c), first, most)
				}
			}
		}
	}
	n.all(t, 500)
}

// TestCubes: of more than one turn the same holds (7.2).
func TestCubes(t *testing.T) {
	n := tally{}
	for _, k := range []int{1, -1, 2} {
		for _, c := range []int{0, 1, -1, one, -one, 2 * one, -2 * one, 2*one + 1, 1 - 2*one, 5 * one, -18 * one} {
			for _, z := range []int{0, one, -one, 2 * one, -2 * one, 113512, -113512, 22761} {
				for _, first := range firsts(z) {
					for _, most := range rounds() {
						n.check(t, cubeOf(k, c), first, most)
					}
				}
			}
		}
	}
	n.all(t, 500)
}

// TestLinesFound: of a line that is steep enough a zero some steps within t is told, and narrowly; one some steps beyond it is told to be none.
func TestLinesFound(t *testing.T) {
	for _, k := range []int{one, -one, 3 * one, -3 * one, 7*one + 13, -2*one - 1, 9 * one} {
		for z := -5 * one; z <= 5*one; z += one/3 + 11 {
			c := lineOf(k, -k*z/one)
			for _, first := range []api.Iv{of(z-6, z+6), of(z-6, z+5*one), of(z-9*one, z+6), of(z-3*one, z+2*one), wholes(-20, 20)} {
				if got := (tally{}).check(t, c, first, 1); got.is != api.Yes || got.t.Hi-got.t.Lo > 3 {
					t.Errorf("7.1: the zero near %d of slope %d on %+v: %+v", z, k, first, got)
				}
			}
			for _, first := range []api.Iv{of(z+6, z+60), of(z-60, z-6), of(z+one, z+4*one), of(z-4*one, z-one), point(z + 6), point(z - 6)} {
				if got := (tally{}).check(t, c, first, 1); got != no {
					t.Errorf("7.1: the zero near %d of slope %d on %+v: %+v", z, k, first, got)
				}
			}
		}
	}
}

// TestSquaresFound: a zero that is alone in t is told, and narrowly, of either slope, whole or not; where the slope has 0, by halves.
func TestSquaresFound(t *testing.T) {
	for _, k := range []int{1, -1, 2, -3} {
		for z := 9 * one / 8; z <= 5*one; z += one / 8 {
			for _, off := range []int{0, 1, -13, 100} {
				c := squareOf(k, -k*(z*z/one)+off)
				for _, first := range []api.Iv{of(z-one/4, z+one/4), of(one/2, 6*one), wholes(1, 20), of(-one/2-777, 6*one), of(-one, 7*one+2345), of(-one/9, z+one)} {
					for _, side := range []api.Iv{first, iv.Neg(first)} {
						if got := (tally{}).check(t, c, side, 40); got.is != api.Yes || got.t.Hi-got.t.Lo > 4 {
							t.Errorf("7.1: of %d (t t - %d), %d off, on %+v: %+v", k, z*z/one, off, side, got)
						}
					}
				}
				for _, first := range []api.Iv{wholes(-7, 7), of(-z-one/3, z+one/2)} {
					if got := (tally{}).check(t, c, first, 40); got != unsure {
						t.Errorf("7.1: both zeros of %d (t t - %d), on %+v: %+v", k, z*z/one, first, got)
					}
				}
				for _, first := range []api.Iv{of(z+one/4, 8*one), of(one/16, z-one/2), point(0), point(z + one)} {
					for _, side := range []api.Iv{first, iv.Neg(first)} {
						if got := (tally{}).check(t, c, side, 40); got != no && !iv.Has(first, 0) {
							t.Errorf("7.1: beside the zeros of %d (t t - %d), on %+v: %+v", k, z*z/one, side, got)
						}
					}
				}
			}
		}
	}
}

// TestZeroBetweenHalves: a zero that both halves have is not told, though it is alone in t: neither half is without it.
func TestZeroBetweenHalves(t *testing.T) {
	for _, c := range []struct {
		f     curve
		first api.Iv
	}{
		{squareOf(1, -one), of(-one/2, 5*one/2)}, {squareOf(-1, one), of(-one/2, 5*one/2)}, {squareOf(1, -4*one), wholes(-1, 5)}, {squareOf(1, -4*one), wholes(-5, 1)}, {squareOf(3, -27*one), wholes(-1, 7)}, {squareOf(-2, 2*one), of(-5*one/2, one/2)}, {cubeOf(1, 0), wholes(-1, 1)},
		// Of the first halves just one has it, but of that one's both.
		{squareOf(1, -one), of(-one/2, 11*one/2)}, {squareOf(1, -4*one), of(-11*one, one)},
	} {
		if got := (tally{}).check(t, c.f, c.first, 40); got != unsure || c.f.zeros(c.first) != 1 {
			t.Errorf("7.1: %s on %+v, with %d zeros: %+v", c.f.what, c.first, c.f.zeros(c.first), got)
		}
	}
}

// TestBoxes: of a box of lines, or of squares, what is told holds of each that lies in it: a zero that is known exactly lies in the answer (W1), and what less of it has, or has not, is not told otherwise (W2).
func TestBoxes(t *testing.T) {
	n := tally{}
	kinds := []struct {
		box  func(k, c api.Iv) function
		each func(k, c int) curve
	}{
		{line, lineOf}, {square, func(k, c int) curve {
			return curve{"a square", square(point(k), point(c)), func(t int) int { return k*t*t + c*one*one }, []int{0}}
		}},
	}
	for _, kind := range kinds {
		for _, k := range []api.Iv{wholes(1, 2), wholes(-3, -1), of(one-9, one+9), of(-one/2-77, -one/2), of(-one, one), of(1, one), whole(2)} {
			for _, c := range []api.Iv{of(-2*one, -one), of(-9, 9), of(one, one+5), of(-4*one, one), of(3*one, 3*one+one/2), of(-4*one-9, -4*one), of(0, one), whole(-1)} {
				for _, z := range []int{0, one, -one, 2 * one, -2 * one, 4 * one} {
					for _, first := range firsts(z) {
						n.box(t, kind.box(k, c), kind.each, k, c, first)
					}
				}
			}
		}
	}
	if n["Yes"] < 500 || n["No"] < 500 || n["Unsure, and sure of less"] < 500 {
		t.Errorf("W1: only %v", n)
	}
}

// box holds what Solve says of a box against the curves in it, and against what it says of them.
func (n tally) box(t *testing.T, f function, in func(k, c int) curve, k, c, first api.Iv) {
	t.Helper()
	more := solve(f, first, 20)
	for _, x := range []int{k.Lo, iv.Mid(k), k.Hi} {
		for _, y := range []int{c.Lo, c.Lo + (c.Hi-c.Lo)/3, c.Hi} {
			each := in(x, y)
			less := tally{}.check(t, each, first, 20)
			switch {
			case more.is == api.Yes:
				n["Yes"]++
				if each.zeros(first) != 1 || each.zeros(more.t) != 1 || less.is == api.No {
					t.Errorf("W1: of %+v, %+v on %+v: %+v, though with %d, %d it has %d zeros: %+v", k, c, first, more, x, y, each.zeros(first), less)
				}
			case more.is == api.No:
				n["No"]++
				if each.zeros(first) != 0 || less.is == api.Yes {
					t.Errorf("W2: of %+v, %+v on %+v: No, though with %d, %d it has %d zeros: %+v", k, c, first, x, y, each.zeros(first), less)
				}
			case less.is != api.Unsure:
				n["Unsure, and sure of less"]++
			}
		}
	}
}

package tri_test

import (
	"math"
	"testing"

	"meniscus/api"
	"meniscus/tri"
)

const (
	most = api.Most
	u    = api.Unsure
	y    = api.Yes
	n    = api.No
)

func of(lo, hi int) api.Iv {
	return api.Iv{Lo: lo, Hi: hi}
}

// wrong are intervals that are not right: No, an end that is not In, Lo above Hi.
func wrong() []api.Iv {
	l := []api.Iv{
		{No: true}, {Lo: 1, Hi: 2, No: true}, {Lo: -most, Hi: -most, No: true}, {Lo: most, Hi: most, No: true}, {Lo: 5, Hi: -5, No: true},
		of(1, 0), of(0, -1), of(most, -most), of(most, most-1), of(math.MaxInt, math.MinInt), of(math.MinInt, math.MaxInt),
	}
	for _, end := range []int{most + 1, -most - 1, math.MaxInt32 + 1, math.MinInt32 - 1, 1 << 32, -1 << 32, math.MaxInt, math.MinInt} {
		l = append(l, of(end, end), of(0, end), of(end, 0), of(end, most), of(-most, end), of(end, -most), of(most, end))
	}
	return l
}

// among are all intervals with both ends among the numbers, which rise.
func among(numbers []int) []api.Iv {
	var l []api.Iv
	for i, lo := range numbers {
		for _, hi := range numbers[i:] {
			l = append(l, of(lo, hi))
		}
	}
	return l
}

// small are numbers that lie close together: each interval of them is all its numbers.
func small() []int {
	return []int{-3, -2, -1, 0, 1, 2, 3}
}

// wide are numbers of all sizes, the bounds among them.
func wide() []int {
	return []int{-most, 1 - most, -api.One, -1, 0, 1, api.One, most - 1, most}
}

// checkTwo holds Less and NotAbove of a and b against what they ought to be.
func checkTwo(t *testing.T, a, b api.Iv, less, notAbove api.Tri) {
	t.Helper()
	if got := tri.Less(a, b); got != less {
		t.Errorf("3.1: Less(%+v, %+v) = %d, not %d", a, b, got, less)
	}
	if got := tri.NotAbove(a, b); got != notAbove {
		t.Errorf("3.1: NotAbove(%+v, %+v) = %d, not %d", a, b, got, notAbove)
	}
}

func TestExample(t *testing.T) {
	if got := tri.Less(of(1, 3), of(3, 5)); got != u {
		t.Errorf("3.1: the example of chapter 3: %d", got)
	}
}

func TestLessAndNotAbove(t *testing.T) {
	for _, c := range []struct {
		a, b           api.Iv
		less, notAbove api.Tri
	}{
		// They lie apart.
		{of(1, 3), of(4, 5), y, y}, {of(4, 5), of(1, 3), n, n}, {of(-5, -4), of(-3, -1), y, y}, {of(-3, -1), of(-5, -4), n, n},
		{of(-9, -2), of(2, 9), y, y}, {of(2, 9), of(-9, -2), n, n},
		// They touch at an end.
		{of(1, 3), of(3, 5), u, y}, {of(3, 5), of(1, 3), n, u}, {of(-3, 0), of(0, 3), u, y}, {of(0, 3), of(-3, 0), n, u},
		// They overlap, or one lies in the other.
		{of(1, 3), of(2, 5), u, u}, {of(2, 5), of(1, 3), u, u}, {of(0, 9), of(3, 4), u, u}, {of(3, 4), of(0, 9), u, u},
		{of(1, 3), of(1, 3), u, u}, {of(1, 3), of(1, 5), u, u}, {of(1, 5), of(3, 5), u, u},
		// Points.
		{of(2, 2), of(2, 2), n, y}, {of(2, 2), of(3, 3), y, y}, {of(3, 3), of(2, 2), n, n}, {of(0, 0), of(0, 0), n, y},
		// A point at an end, within, outside.
		{of(3, 3), of(3, 5), u, y}, {of(5, 5), of(3, 5), n, u}, {of(4, 4), of(3, 5), u, u}, {of(2, 2), of(3, 5), y, y}, {of(6, 6), of(3, 5), n, n},
		{of(3, 5), of(3, 3), n, u}, {of(3, 5), of(5, 5), u, y}, {of(3, 5), of(4, 4), u, u}, {of(3, 5), of(2, 2), n, n}, {of(3, 5), of(6, 6), y, y},
		// The bounds.
		{of(-most, -most), of(most, most), y, y}, {of(most, most), of(-most, -most), n, n},
		{of(most, most), of(most, most), n, y}, {of(-most, -most), of(-most, -most), n, y},
		{of(-most, most), of(-most, most), u, u}, {of(-most, most), of(most, most), u, y}, {of(most, most), of(-most, most), n, u},
		{of(-most, most), of(-most, -most), n, u}, {of(-most, -most), of(-most, most), u, y}, {of(-most, most), of(0, 0), u, u},
		{of(-most, most-1), of(most, most), y, y}, {of(1-most, most), of(-most, -most), n, n},
		{of(-most, 0), of(0, most), u, y}, {of(0, most), of(-most, 0), n, u}, {of(-most, -1), of(1, most), y, y}, {of(1, most), of(-most, -1), n, n},
	} {
		checkTwo(t, c.a, c.b, c.less, c.notAbove)
	}
}

// TestByTheirEnds holds all intervals by all against the words of the promise.
func TestByTheirEnds(t *testing.T) {
	for _, numbers := range [][]int{small(), wide()} {
		for _, a := range among(numbers) {
			for _, b := range among(numbers) {
				less, notAbove := u, u
				if a.Hi < b.Lo {
					less = y
				}
				if a.Lo >= b.Hi {
					less = n
				}
				if a.Hi <= b.Lo {
					notAbove = y
				}
				if a.Lo > b.Hi {
					notAbove = n
				}
				checkTwo(t, a, b, less, notAbove)
			}
		}
	}
}

// TestOfWhatIsNotRight: nothing can be said, whatever the ends are and the other is (3.1, R1).
func TestOfWhatIsNotRight(t *testing.T) {
	for _, bad := range wrong() {
		for _, other := range append(wrong(), among(wide())...) {
			checkTwo(t, bad, other, u, u)
			checkTwo(t, other, bad, u, u)
		}
	}
}

// said tells what all of the pairs of small numbers, one in a, one in b, agree on; Unsure, if they don't.
func said(a, b api.Iv, is func(p, q int) bool) api.Tri {
	some, all := false, true
	for p := a.Lo; p <= a.Hi; p++ {
		for q := b.Lo; q <= b.Hi; q++ {
			some, all = some || is(p, q), all && is(p, q)
		}
	}
	switch {
	case all:
		return y
	case !some:
		return n
	}
	return u
}

// TestSoOfEachTwo: what is said is so of each two numbers, and is said wherever they agree (3.1, W2).
func TestSoOfEachTwo(t *testing.T) {
	for _, a := range among(small()) {
		for _, b := range among(small()) {
			less := said(a, b, func(p, q int) bool { return p < q })
			notAbove := said(a, b, func(p, q int) bool { return p <= q })
			checkTwo(t, a, b, less, notAbove)
		}
	}
}

// TestSoOfTheirNumbers: so it is of numbers of all sizes, of those at hand.
func TestSoOfTheirNumbers(t *testing.T) {
	for _, a := range among(wide()) {
		for _, b := range among(wide()) {
			less, notAbove := tri.Less(a, b), tri.NotAbove(a, b)
			for _, p := range []int{a.Lo, a.Lo + (a.Hi-a.Lo)/2, a.Hi} {
				for _, q := range []int{b.Lo, b.Lo + (b.Hi-b.Lo)/2, b.Hi} {
					if less == y && p >= q || less == n && p < q {
						t.Errorf("3.1: Less(%+v, %+v) = %d; %d, %d", a, b, less, p, q)
					}
					if notAbove == y && p > q || notAbove == n && p <= q {
						t.Errorf("3.1: NotAbove(%+v, %+v) = %d; %d, %d", a, b, notAbove, p, q)
					}
				}
			}
		}
	}
}

// lesser are those of the list that lie in a.
func lesser(a api.Iv, list []api.Iv) []api.Iv {
	var l []api.Iv
	for _, b := range list {
		if a.Lo <= b.Lo && b.Hi <= a.Hi {
			l = append(l, b)
		}
	}
	return l
}

// TestSaidOfLess: what is said, Yes or No, is said of less of either and of both (W2).
func TestSaidOfLess(t *testing.T) {
	for _, l := range [][]api.Iv{among(small()), among(wide())} {
		for _, a := range l {
			for _, b := range l {
				less, notAbove := tri.Less(a, b), tri.NotAbove(a, b)
				for _, p := range lesser(a, l) {
					for _, q := range lesser(b, l) {
						if got := tri.Less(p, q); less != u && got != less {
							t.Errorf("W2: Less(%+v, %+v) = %d, of less, %+v, %+v, %d", a, b, less, p, q, got)
						}
						if got := tri.NotAbove(p, q); notAbove != u && got != notAbove {
							t.Errorf("W2: NotAbove(%+v, %+v) = %d, of less, %+v, %+v, %d", a, b, notAbove, p, q, got)
						}
					}
				}
			}
		}
	}
}

// unsure are all that count as Unsure: Unsure, and what is none of the three.
func unsure() []api.Tri {
	return []api.Tri{u, 3, 4, 5, 7, 255, 256, 257, 258, 1 << 32, 1<<32 + 1, 1<<32 + 2, math.MaxInt, -1, -2, -3, -1 << 32, 1 - 1<<32, 2 - 1<<32, math.MinInt, math.MinInt + 1, math.MinInt + 2}
}

func TestNot(t *testing.T) {
	if tri.Not(y) != n || tri.Not(n) != y {
		t.Errorf("3.1: Not(Yes) = %d, Not(No) = %d", tri.Not(y), tri.Not(n))
	}
	for _, a := range unsure() {
		if got := tri.Not(a); got != u {
			t.Errorf("3.1: Not(%d) = %d", a, got)
		}
	}
}

// checkWords holds And and Or of a and b, either way round, against what they ought to be.
func checkWords(t *testing.T, a, b, and, or api.Tri) {
	t.Helper()
	if p, q := tri.And(a, b), tri.And(b, a); p != and || q != and {
		t.Errorf("3.1: And of %d and %d: %d and %d, not %d", a, b, p, q, and)
	}
	if p, q := tri.Or(a, b), tri.Or(b, a); p != or || q != or {
		t.Errorf("3.1: Or of %d and %d: %d and %d, not %d", a, b, p, q, or)
	}
}

func TestAndOr(t *testing.T) {
	checkWords(t, y, y, y, y)
	checkWords(t, y, n, n, y)
	checkWords(t, n, n, n, n)
	for _, a := range unsure() {
		checkWords(t, a, y, u, y)
		checkWords(t, a, n, n, u)
		for _, b := range unsure() {
			checkWords(t, a, b, u, u)
		}
	}
}

// could are all that a word may stand for: each of the two, if it is unsure.
func could(a api.Tri) []bool {
	switch a {
	case y:
		return []bool{true}
	case n:
		return []bool{false}
	}
	return []bool{true, false}
}

// TestWordsStandForAll: what is said of two words is so of all that they may stand for, and unsaid only where those disagree.
func TestWordsStandForAll(t *testing.T) {
	word := func(trues, falses int) api.Tri {
		switch {
		case falses == 0:
			return y
		case trues == 0:
			return n
		}
		return u
	}
	for _, a := range []api.Tri{u, y, n} {
		for _, b := range []api.Tri{u, y, n} {
			var and, or [2]int
			for _, p := range could(a) {
				for _, q := range could(b) {
					and[index(p && q)]++
					or[index(p || q)]++
				}
			}
			checkWords(t, a, b, word(and[1], and[0]), word(or[1], or[0]))
		}
	}
}

// index is 1 for true, 0 for false.
func index(b bool) int {
	if b {
		return 1
	}
	return 0
}

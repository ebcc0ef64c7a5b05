package gauss_test

import (
	"math"
	"math/big"
	"slices"
	"testing"

	"meniscus/api"
	"meniscus/gauss"
)

// far is the greatest part of a whole number.
const far = 1 << 20

// minus is -0, which no constant is.
func minus() float64 {
	return math.Copysign(0, -1)
}

// plain tells whether no part of z is -0.
func plain(z complex128) bool {
	return (real(z) != 0 || !math.Signbit(real(z))) && (imag(z) != 0 || !math.Signbit(imag(z)))
}

func at(x, y int) complex128 {
	return complex(float64(x), float64(y))
}

// parts are of a whole number, from the least on.
func parts() []int {
	return []int{-far, 1 - far, -far / 2, -65537, -1000, -25, -7, -4, -3, -2, -1, 0, 1, 2, 3, 4, 5, 24, 999, 65536, far/2 + 1, far - 1, far}
}

// some are whole numbers of all sizes, in all quarters, on the axes, at the bounds.
func some() []complex128 {
	var l []complex128
	for _, x := range parts() {
		for _, y := range parts() {
			l = append(l, at(x, y))
		}
	}
	return l
}

// few are less of them, where two are asked at once.
func few() []complex128 {
	return []complex128{0, 1, -1, 1i, -1i, 1 + 1i, 3 + 4i, -4 + 3i, 2 - 5i, -7 - 24i, 12i, -9, at(far, 0), at(0, -far), at(far, far), at(-far, far-1), at(1-far, 3), at(far/2, -far/2), at(65537, -65536)}
}

// zeros are whole numbers with one part, or both, that is -0.
func zeros() []complex128 {
	m := minus()
	return []complex128{complex(m, 0), complex(0, m), complex(m, m), complex(m, 5), complex(m, -5), complex(5, m), complex(-5, m), complex(far, m), complex(m, -far), complex(-far, m), complex(m, far)}
}

// wrongParts are parts of no whole number.
func wrongParts() []float64 {
	return []float64{
		far + 1, -far - 1, far + 2, 2 * far, -2 * far, 1 << 31, -1 << 32, 1 << 53, 1 << 63, -1 << 63, 1e300, -1e300, math.MaxFloat64, -math.MaxFloat64,
		0.5, -0.5, 1.5, -2.5, far - 0.5, 0.5 - far, 1e-9, -1e-300, math.SmallestNonzeroFloat64, -math.SmallestNonzeroFloat64,
		math.Nextafter(far, 2*far), math.Nextafter(-far, -2*far), math.Nextafter(far, 0), math.Nextafter(1, 0), math.Nextafter(1, 2), math.Nextafter(-3, 0),
		math.NaN(), math.Inf(1), math.Inf(-1),
	}
}

// wrong are not whole, in one part or in both.
func wrong() []complex128 {
	var l []complex128
	for k, x := range wrongParts() {
		for _, y := range []float64{0, 1, -3, far, -far, minus()} {
			l = append(l, complex(x, y), complex(y, x))
		}
		l = append(l, complex(x, x), complex(x, wrongParts()[(k*5+3)%len(wrongParts())]))
	}
	return l
}

// counts are what a call may be told as a number, whatever it is.
func counts() []int {
	return []int{0, 1, 2, 3, 4, 5, 6, 7, 8, 15, 16, 17, 99, 1000, far - 1, far, far + 1, 1 << 31, 1 << 32, 1<<62 + 1, math.MaxInt - 1, math.MaxInt, -1, -2, -3, -4, -5, -6, -7, -16, -17, -far, -far - 1, -1 << 32, 1 - 1<<62, math.MinInt + 3, math.MinInt + 1, math.MinInt}
}

// check holds a number against what it ought to be, and its parts that are 0 against -0.
func check(t *testing.T, what string, got, want complex128) {
	t.Helper()
	if got != want {
		t.Errorf("%s: %v, not %v", what, got, want)
	}
	if !plain(got) {
		t.Errorf("%s: a part of %v is -0", what, got)
	}
}

// TestExample: the example of chapter 8.
func TestExample(t *testing.T) {
	check(t, "8.1: Turn(3+4i, 1)", gauss.Turn(3+4i, 1), -4+3i)
}

// TestWhole: both parts are whole numbers within the bounds.
func TestWhole(t *testing.T) {
	for _, z := range append(some(), zeros()...) {
		if !gauss.Whole(z) {
			t.Errorf("8.1: Whole(%v) is false", z)
		}
	}
	for _, z := range wrong() {
		if gauss.Whole(z) {
			t.Errorf("8.1: Whole(%v) is true", z)
		}
	}
}

// TestWholeAtTheBounds: the bounds are within, in either part; a place beyond them is not.
func TestWholeAtTheBounds(t *testing.T) {
	for _, c := range []struct {
		part float64
		want bool
	}{{far, true}, {-far, true}, {far + 1, false}, {-far - 1, false}, {far - 1, true}, {1 - far, true}, {0, true}, {minus(), true}, {0.5, false}, {-0.5, false}, {far - 0.5, false}, {0.5 - far, false}, {math.NaN(), false}, {math.Inf(1), false}, {math.Inf(-1), false}} {
		for _, z := range []complex128{complex(c.part, 0), complex(0, c.part), complex(c.part, 7), complex(-7, c.part), complex(c.part, c.part), complex(c.part, -far), complex(far, c.part)} {
			if gauss.Whole(z) != c.want {
				t.Errorf("8.1: Whole(%v) is %v", z, !c.want)
			}
		}
	}
}

// TestOfOthers: of what is not whole nothing is told.
func TestOfOthers(t *testing.T) {
	for _, z := range wrong() {
		check(t, "8.1: Mirror of what is not whole", gauss.Mirror(z), 0)
		if got := gauss.Norm(z); got != 0 {
			t.Errorf("8.1: Norm(%v) = %d", z, got)
		}
		for _, k := range counts() {
			check(t, "8.1: Turn of what is not whole", gauss.Turn(z, k), 0)
			if got := gauss.InDisc(z, k); got != api.Unsure {
				t.Errorf("8.1: InDisc(%v, %d) = %d", z, k, got)
			}
		}
	}
}

// TestTurn: by each of 0 to 3, and by what is one of them modulo 4.
func TestTurn(t *testing.T) {
	for _, c := range []struct {
		z    complex128
		k    int
		want complex128
	}{
		{3 + 4i, 0, 3 + 4i}, {3 + 4i, 1, -4 + 3i}, {3 + 4i, 2, -3 - 4i}, {3 + 4i, 3, 4 - 3i},
		{3 + 4i, 4, 3 + 4i}, {3 + 4i, 5, -4 + 3i}, {3 + 4i, 6, -3 - 4i}, {3 + 4i, 7, 4 - 3i}, {3 + 4i, 401, -4 + 3i},
		{3 + 4i, -1, 4 - 3i}, {3 + 4i, -2, -3 - 4i}, {3 + 4i, -3, -4 + 3i}, {3 + 4i, -4, 3 + 4i}, {3 + 4i, -5, 4 - 3i}, {3 + 4i, -403, -4 + 3i},
		{3 + 4i, math.MinInt, 3 + 4i}, {3 + 4i, math.MinInt + 1, -4 + 3i}, {3 + 4i, math.MaxInt, 4 - 3i}, {3 + 4i, math.MaxInt - 1, -3 - 4i},
		{3 + 4i, 1 << 32, 3 + 4i}, {3 + 4i, 1<<32 + 1, -4 + 3i}, {3 + 4i, -1 << 32, 3 + 4i}, {3 + 4i, -1<<32 - 1, 4 - 3i},
		// The axes, and 0.
		{5, 0, 5}, {5, 1, 5i}, {5, 2, -5}, {5, 3, -5i}, {5i, 1, -5}, {5i, 2, -5i}, {5i, 3, 5}, {-5, 1, -5i}, {-5, 2, 5}, {-5, 3, 5i}, {-5i, 1, 5}, {-5i, 2, 5i}, {-5i, 3, -5},
		{0, 0, 0}, {0, 1, 0}, {0, 2, 0}, {0, 3, 0}, {0, -1, 0}, {0, math.MinInt, 0},
		// The bounds.
		{at(far, far-1), 1, at(1-far, far)}, {at(far, far-1), 2, at(-far, 1-far)}, {at(far, far-1), 3, at(far-1, -far)}, {at(-far, -far), 1, at(far, -far)}, {at(-far, 0), 1, at(0, -far)}, {at(0, far), 2, at(0, -far)},
	} {
		check(t, "8.1: Turn", gauss.Turn(c.z, c.k), c.want)
	}
}

// quarter is z turned once, by what becomes of its parts.
func quarter(z complex128) complex128 {
	return complex(-imag(z), real(z))
}

// TestTurnByParts holds all turns of all numbers against their parts.
func TestTurnByParts(t *testing.T) {
	for _, z := range append(some(), zeros()...) {
		for _, k := range counts() {
			want := z
			for range (k%4 + 4) % 4 {
				want = quarter(want)
			}
			check(t, "8.1: Turn", gauss.Turn(z, k), want)
		}
	}
}

// TestMirror: the imaginary part goes the other way.
func TestMirror(t *testing.T) {
	for _, c := range []struct{ z, want complex128 }{
		{3 + 4i, 3 - 4i}, {3 - 4i, 3 + 4i}, {-3 + 4i, -3 - 4i}, {-3 - 4i, -3 + 4i}, {5, 5}, {-5, -5}, {5i, -5i}, {-5i, 5i}, {0, 0}, {1, 1}, {at(far, -far), at(far, far)}, {at(-far, far), at(-far, -far)}, {at(0, far), at(0, -far)}, {at(-far, 0), at(-far, 0)},
	} {
		check(t, "8.1: Mirror", gauss.Mirror(c.z), c.want)
	}
	for _, z := range append(some(), zeros()...) {
		check(t, "8.1: Mirror", gauss.Mirror(z), complex(real(z), -imag(z)))
	}
}

// TestNorm: the sum of both parts' squares.
func TestNorm(t *testing.T) {
	for _, c := range []struct {
		z    complex128
		want int
	}{
		{0, 0}, {1, 1}, {-1, 1}, {1i, 1}, {-1i, 1}, {1 + 1i, 2}, {3 - 4i, 25}, {-3 + 4i, 25}, {7, 49}, {-24i, 576}, {2 + 1i, 5},
		{at(far, 0), 1 << 40}, {at(0, -far), 1 << 40}, {at(far, 1), 1<<40 + 1}, {at(far, far), 1 << 41}, {at(-far, far), 1 << 41}, {at(-far, -far), 1 << 41}, {at(far, far-1), 1<<41 - 1<<21 + 1}, {complex(minus(), minus()), 0}, {complex(minus(), -3), 9},
	} {
		if got := gauss.Norm(c.z); got != c.want {
			t.Errorf("8.1: Norm(%v) = %d, not %d", c.z, got, c.want)
		}
	}
	for _, x := range parts() {
		for _, y := range parts() {
			if got := gauss.Norm(at(x, y)); got != x*x+y*y {
				t.Errorf("8.1: Norm(%d, %d) = %d", x, y, got)
			}
		}
	}
}

// TestTurned: turns add up, four are none, one of a mirrored number is a mirrored one of the other way; the norm stays (W3).
func TestTurned(t *testing.T) {
	for _, z := range append(some(), zeros()...) {
		check(t, "W3: four turns", gauss.Turn(z, 4), z+0)
		check(t, "W3: four turns, one by one", gauss.Turn(gauss.Turn(gauss.Turn(gauss.Turn(z, 1), 1), 1), 1), z+0)
		check(t, "W3: mirrored twice", gauss.Mirror(gauss.Mirror(z)), z+0)
		for k := -9; k <= 9; k++ {
			turned := gauss.Turn(z, k)
			for l := -9; l <= 9; l++ {
				check(t, "W3: turns that add up", gauss.Turn(turned, l), gauss.Turn(z, k+l))
			}
			check(t, "W3: a mirrored turn", gauss.Mirror(turned), gauss.Turn(gauss.Mirror(z), -k))
			if gauss.Norm(turned) != gauss.Norm(z) || gauss.Norm(gauss.Mirror(turned)) != gauss.Norm(z) || !gauss.Whole(turned) {
				t.Errorf("W3: %v, turned by %d: %v", z, k, turned)
			}
		}
	}
}

// TestCells: each cell of the square, row by row.
func TestCells(t *testing.T) {
	for _, c := range []struct {
		n    int
		want []complex128
	}{
		{1, []complex128{-1 - 1i, -1i, -1, 0}},
		{2, []complex128{-2 - 2i, -1 - 2i, -2i, 1 - 2i, -2 - 1i, -1 - 1i, -1i, 1 - 1i, -2, -1, 0, 1, -2 + 1i, -1 + 1i, 1i, 1 + 1i}},
	} {
		if got := gauss.Cells(c.n); !slices.Equal(got, c.want) {
			t.Errorf("8.2: Cells(%d): %v, not %v", c.n, got, c.want)
		}
	}
	for _, n := range counts() {
		var want []complex128
		side := max(0, min(n, api.MaxCells))
		for k := range 4 * side * side {
			want = append(want, at(k%(2*side)-side, k/(2*side)-side))
		}
		got := gauss.Cells(n)
		if !slices.Equal(got, want) {
			t.Errorf("8.2: Cells(%d): %d of them, not %d, or others", n, len(got), len(want))
		}
		for _, z := range got {
			if !plain(z) || !gauss.Whole(z) {
				t.Errorf("8.2: Cells(%d): %v", n, z)
			}
		}
	}
}

// TestCellsNew: each answer is new memory, spare room too (R2).
func TestCellsNew(t *testing.T) {
	for _, n := range []int{0, 1, 2, 5, api.MaxCells, 99} {
		a, b := gauss.Cells(n), gauss.Cells(n)
		keep := slices.Clone(b)
		for k := range a[:cap(a)] {
			a[:cap(a)][k] = 9i
		}
		if !slices.Equal(b, keep) || !slices.Equal(gauss.Cells(n), keep) {
			t.Errorf("R2: Cells(%d) hands out what was handed out", n)
		}
	}
}

// TestInDisc: cells at the axes, at the rim, in all quarters.
func TestInDisc(t *testing.T) {
	for _, c := range []struct {
		z    complex128
		n    int
		want api.Tri
	}{
		// A corner at 0, and the cells about it: the farthest corner's norm is 2.
		{0, 1, api.Unsure}, {-1, 1, api.Unsure}, {-1i, 1, api.Unsure}, {-1 - 1i, 1, api.Unsure}, {0, 2, api.Yes}, {-1, 2, api.Yes}, {-1i, 2, api.Yes}, {-1 - 1i, 2, api.Yes},
		// A corner of norm 25: equal is not above.
		{2 + 3i, 5, api.Yes}, {3 + 2i, 5, api.Yes}, {-3 + 3i, 5, api.Yes}, {-4 + 2i, 5, api.Yes}, {-3 - 4i, 5, api.Yes}, {-4 - 3i, 5, api.Yes}, {2 - 4i, 5, api.Yes}, {3 - 3i, 5, api.Yes},
		{3 + 3i, 5, api.Unsure}, {-4 + 3i, 5, api.Unsure}, {-4 - 4i, 5, api.Unsure}, {3 - 4i, 5, api.Unsure},
		// The nearest place of norm 25: equal is not above, one more is.
		{3 + 4i, 5, api.Unsure}, {4 + 3i, 5, api.Unsure}, {-5 + 3i, 5, api.Unsure}, {-4 + 4i, 5, api.Unsure}, {-4 - 5i, 5, api.Unsure}, {-5 - 4i, 5, api.Unsure}, {3 - 5i, 5, api.Unsure}, {4 - 4i, 5, api.Unsure},
		{4 + 4i, 5, api.No}, {-5 + 4i, 5, api.No}, {-5 - 5i, 5, api.No}, {4 - 5i, 5, api.No}, {5 + 1i, 5, api.No}, {1 + 5i, 5, api.No}, {-6 + 1i, 5, api.No}, {-6 - 2i, 5, api.No}, {5 - 2i, 5, api.No}, {1 - 6i, 5, api.No}, {-2 - 6i, 5, api.No}, {-2 + 5i, 5, api.No},
		// Cells that touch an axis, at the rim.
		{5, 5, api.Unsure}, {5 - 1i, 5, api.Unsure}, {-6, 5, api.Unsure}, {-6 - 1i, 5, api.Unsure}, {5i, 5, api.Unsure}, {-1 + 5i, 5, api.Unsure}, {-6i, 5, api.Unsure}, {-1 - 6i, 5, api.Unsure},
		{6, 5, api.No}, {6 - 1i, 5, api.No}, {-7, 5, api.No}, {-7 - 1i, 5, api.No}, {6i, 5, api.No}, {-1 + 6i, 5, api.No}, {-7i, 5, api.No}, {-1 - 7i, 5, api.No},
		{4, 5, api.Unsure}, {-5, 5, api.Unsure}, {4i, 5, api.Unsure}, {-5i, 5, api.Unsure}, {3, 5, api.Yes}, {-4 - 1i, 5, api.Yes}, {3i, 5, api.Yes}, {-1 - 4i, 5, api.Yes},
		// Of 0 there is just the place 0.
		{0, 0, api.Unsure}, {-1, 0, api.Unsure}, {-1i, 0, api.Unsure}, {-1 - 1i, 0, api.Unsure}, {1, 0, api.No}, {1i, 0, api.No}, {-2, 0, api.No}, {-2i, 0, api.No}, {1 - 1i, 0, api.No}, {-1 + 1i, 0, api.No}, {-2 - 1i, 0, api.No}, {1 + 1i, 0, api.No},
		{complex(minus(), minus()), 1, api.Unsure}, {complex(minus(), minus()), 2, api.Yes}, {complex(minus(), -6), 5, api.Unsure}, {complex(6, minus()), 5, api.No},
	} {
		if got := gauss.InDisc(c.z, c.n); got != c.want {
			t.Errorf("8.2: InDisc(%v, %d) = %d, not %d", c.z, c.n, got, c.want)
		}
	}
}

// TestInDiscFarOut: n is brought within 0 to 2^20; corners that are one beyond the whole numbers count as they are.
func TestInDiscFarOut(t *testing.T) {
	for _, n := range []int{-1, -5, -far, math.MinInt, math.MinInt + 1, -1 << 32} {
		for _, z := range []complex128{0, -1, 1, 3 + 4i, -2 - 1i, at(far, far), at(-far, 0)} {
			if got, want := gauss.InDisc(z, n), gauss.InDisc(z, 0); got != want {
				t.Errorf("8.2: InDisc(%v, %d) = %d, of 0 %d", z, n, got, want)
			}
		}
	}
	for _, c := range []struct {
		z    complex128
		want api.Tri
	}{
		{0, api.Yes}, {at(100, -100), api.Yes}, {at(far-2, 0), api.Yes}, {at(1-far, 0), api.Yes}, {at(1-far, -1), api.Yes}, {at(0, far-2), api.Yes}, {at(-1, 1-far), api.Yes},
		{at(far-1, 0), api.Unsure}, {at(far-1, -1), api.Unsure}, {at(-far, 0), api.Unsure}, {at(0, -far), api.Unsure}, {at(-1, far-1), api.Unsure},
		{at(far, 0), api.Unsure}, {at(far, -1), api.Unsure}, {at(0, far), api.Unsure}, {at(-1, far), api.Unsure},
		{at(far, 1), api.No}, {at(far, -2), api.No}, {at(1, far), api.No}, {at(-2, far), api.No}, {at(far, far), api.No}, {at(-far, -far), api.No}, {at(far, -far), api.No}, {at(-far, far), api.No},
		{at(-far, 1<<10), api.Unsure}, {at(-far, 1<<11), api.No},
	} {
		for _, n := range []int{far, far + 1, 2 * far, 1 << 31, 1 << 32, 1 << 62, math.MaxInt} {
			if got := gauss.InDisc(c.z, n); got != c.want {
				t.Errorf("8.2: InDisc(%v, %d) = %d, not %d", c.z, n, got, c.want)
			}
		}
	}
	if gauss.InDisc(at(far-2, 0), far-1) != api.Unsure || gauss.InDisc(at(far, 0), far-1) != api.No {
		t.Error("8.2: InDisc of 2^20 - 1")
	}
}

// said is what InDisc is to say, by the words of the promise.
func said(x, y, n int) api.Tri {
	yes := true
	for _, c := range [][2]int{{x, y}, {x + 1, y}, {x, y + 1}, {x + 1, y + 1}} {
		yes = yes && c[0]*c[0]+c[1]*c[1] <= n*n
	}
	p, q := near(x), near(y)
	switch {
	case yes:
		return api.Yes
	case p*p+q*q > n*n:
		return api.No
	}
	return api.Unsure
}

// near is 0, if x to x + 1 has 0, else the nearer edge.
func near(x int) int {
	if x <= 0 && x+1 >= 0 {
		return 0
	}
	if x > 0 {
		return x
	}
	return x + 1
}

// TestInDiscAll holds all cells about small discs, and some about all, against the words.
func TestInDiscAll(t *testing.T) {
	for n := range 9 {
		for x := -11; x <= 11; x++ {
			for y := -11; y <= 11; y++ {
				if got := gauss.InDisc(at(x, y), n); got != said(x, y, n) {
					t.Errorf("8.2: InDisc(%d, %d, %d) = %d", x, y, n, got)
				}
			}
		}
	}
	for _, n := range counts() {
		for _, x := range parts() {
			for _, y := range parts() {
				if got := gauss.InDisc(at(x, y), n); got != said(x, y, max(0, min(n, far))) {
					t.Errorf("8.2: InDisc(%d, %d, %d) = %d", x, y, n, got)
				}
			}
		}
	}
}

// TestKept: places of a cell are in the disc, if it is Yes, and out of it, if it is No; what is sure is sure of more, or less (W4).
func TestKept(t *testing.T) {
	const fine = 4
	for n := range 7 {
		for _, z := range gauss.Cells(8) {
			is := gauss.InDisc(z, n)
			for k := range (fine + 1) * (fine + 1) {
				x, y := int(real(z))*fine+k%(fine+1), int(imag(z))*fine+k/(fine+1)
				in := x*x+y*y <= n*n*fine*fine
				if is == api.Yes && !in || is == api.No && in {
					t.Errorf("W4: InDisc(%v, %d) = %d, but (%d, %d) by %d", z, n, is, x, y, fine)
				}
			}
			if is == api.Yes && gauss.InDisc(z, n+1) != api.Yes || is == api.No && n > 0 && gauss.InDisc(z, n-1) != api.No {
				t.Errorf("W4: InDisc(%v, %d) = %d, of the next one not", z, n, is)
			}
		}
	}
}

// TestInDiscTurned: a cell that is turned, or mirrored, is in the disc as it was.
func TestInDiscTurned(t *testing.T) {
	for n := range 9 {
		for _, z := range gauss.Cells(9) {
			// The cell's least corner is another one then.
			turned, mirrored := gauss.Turn(z, 1)-1, gauss.Mirror(z)-1i
			if is := gauss.InDisc(z, n); gauss.InDisc(turned, n) != is || gauss.InDisc(mirrored, n) != is {
				t.Errorf("W3: InDisc of %v, %v, %v of %d", z, turned, mirrored, n)
			}
		}
	}
}

func beam(n, d complex128) gauss.Beam {
	return gauss.Beam{N: n, D: d}
}

// checkCarry holds Carry against what it ought to answer: the zero Beam is none.
func checkCarry(t *testing.T, b gauss.Beam, m [4]int, want gauss.Beam) {
	t.Helper()
	got, ok := gauss.Carry(b, m)
	if got != want || ok != (want != gauss.Beam{}) {
		t.Errorf("8.3: Carry(%v, %v) = %v, %v, not %v", b, m, got, ok, want)
	}
	if !plain(got.N) || !plain(got.D) {
		t.Errorf("8.1: a part of Carry(%v, %v) = %v is -0", b, m, got)
	}
}

// TestCarry: m0 N + m1 D by m2 N + m3 D.
func TestCarry(t *testing.T) {
	b := beam(3+4i, 1-2i)
	for _, c := range []struct {
		b    gauss.Beam
		m    [4]int
		want gauss.Beam
	}{
		{b, [4]int{1, 0, 0, 1}, b}, {b, [4]int{2, -1, 3, 5}, beam(5+10i, 14+2i)}, {b, [4]int{0, 1, 1, 0}, beam(1-2i, 3+4i)}, {b, [4]int{1, 0, 0, 0}, beam(3+4i, 0)}, {b, [4]int{0, 1, 0, 0}, beam(1-2i, 0)}, {b, [4]int{0, 0, 1, 0}, beam(0, 3+4i)}, {b, [4]int{0, 0, 0, 1}, beam(0, 1-2i)}, {b, [4]int{-1, -10, 7, -100}, beam(-13+16i, -79+228i)},
		{beam(1, 0), [4]int{-1, 0, 0, 1}, beam(-1, 0)}, {beam(0, 1), [4]int{1, 0, 0, -1}, beam(0, -1)}, {beam(1i, 0), [4]int{2, 9, 3, 9}, beam(2i, 3i)}, {beam(0, 1i), [4]int{9, 2, 9, -3}, beam(2i, -3i)}, {beam(2, 2), [4]int{1, -1, 1, 1}, beam(0, 4)}, {beam(2, 2), [4]int{1, 1, 1, -1}, beam(4, 0)},
		// The bounds, of a part, of one of m, of what comes.
		{beam(at(far, -far), at(-far, far)), [4]int{1, 0, 0, 1}, beam(at(far, -far), at(-far, far))}, {beam(at(far, -far), at(-far, far)), [4]int{-1, 0, 0, -1}, beam(at(-far, far), at(far, -far))}, {beam(1, 0), [4]int{far, 0, -far, 0}, beam(far, -far)}, {beam(0, 1i), [4]int{0, -far, 0, far}, beam(at(0, -far), at(0, far))}, {beam(1+1i, 1i), [4]int{far, -far, 1, 1}, beam(far, 1+2i)},
		// What is on the way may be beyond them.
		{beam(far, far), [4]int{2, -1, 1, 0}, beam(far, far)}, {beam(far, far), [4]int{far, -far, 0, 1}, beam(0, far)}, {beam(at(far, far), at(far, far-1)), [4]int{far, -far, 1, 0}, beam(at(0, far), at(far, far))}, {beam(at(far, 5), at(far-1, 5)), [4]int{1 - far, far, 0, 1}, beam(5i, at(far-1, 5))}, {beam(at(-far, 5), at(far-1, -5)), [4]int{far - 1, far, 1, 1}, beam(-5i, -1)},
	} {
		checkCarry(t, c.b, c.m, c.want)
	}
}

// TestCarryZeros: no part of what comes is -0, of what is handed in with -0 neither.
func TestCarryZeros(t *testing.T) {
	m := minus()
	for _, z := range zeros() {
		for _, w := range append(zeros(), 0, 1, -3i, 2+7i) {
			for _, k := range [][4]int{{1, 0, 0, 1}, {-1, 0, 0, -1}, {0, 1, 1, 0}, {1, 1, 1, -1}, {-1, -1, 0, -1}, {0, 0, -1, 0}} {
				for _, b := range []gauss.Beam{beam(z, w), beam(w, z)} {
					got, ok := gauss.Carry(b, k)
					if !plain(got.N) || !plain(got.D) {
						t.Errorf("8.1: a part of Carry(%v, %v) = %v, %v is -0", b, k, got, ok)
					}
				}
			}
		}
	}
	// Both 0 are no beam, whatever their signs.
	for _, b := range []gauss.Beam{beam(complex(m, 0), 0), beam(0, complex(0, m)), beam(complex(m, m), complex(m, m))} {
		checkCarry(t, b, [4]int{1, 0, 0, 1}, gauss.Beam{})
	}
}

// TestCarryNone: of no beam, by a number beyond the bounds, or to no beam: false, and the zero Beam.
func TestCarryNone(t *testing.T) {
	b, same := beam(3+4i, 1-2i), [4]int{1, 0, 0, 1}
	checkCarry(t, gauss.Beam{}, same, gauss.Beam{})
	for _, z := range wrong() {
		for _, c := range []gauss.Beam{beam(z, 1), beam(1, z), beam(z, 0), beam(0, z), beam(z, z)} {
			checkCarry(t, c, same, gauss.Beam{})
			checkCarry(t, c, [4]int{0, 0, 0, 0}, gauss.Beam{})
			checkCarry(t, c, [4]int{1, 0, 1, 0}, gauss.Beam{})
			checkCarry(t, c, [4]int{0, 1, 0, 1}, gauss.Beam{})
		}
	}
	for _, k := range []int{far + 1, -far - 1, far + 2, 1 << 31, 1 << 32, -1 << 32, 1<<32 + 1, 1 << 53, 1 << 62, math.MaxInt, math.MinInt, math.MinInt + 1} {
		for place := range 4 {
			for _, m := range [][4]int{same, {0, 1, 1, 0}, {1, 1, 1, 1}} {
				m[place] = k
				checkCarry(t, b, m, gauss.Beam{})
				checkCarry(t, beam(1, 0), m, gauss.Beam{})
				checkCarry(t, beam(0, 1), m, gauss.Beam{})
			}
		}
	}
	for _, c := range []struct {
		b gauss.Beam
		m [4]int
	}{
		// Both 0.
		{b, [4]int{}}, {beam(1, 0), [4]int{0, 5, 0, 7}}, {beam(0, 1), [4]int{5, 0, 7, 0}}, {beam(1, 1), [4]int{1, -1, 2, -2}}, {beam(2+4i, 1+2i), [4]int{1, -2, -3, 6}}, {beam(far, far), [4]int{far, -far, -far, far}},
		// One beyond the bounds, in each part.
		{beam(far, 1), [4]int{1, 1, 0, 1}}, {beam(far, 1), [4]int{0, 1, 1, 1}}, {beam(-far, 1), [4]int{1, -1, 0, 1}}, {beam(-far, 1), [4]int{0, 1, 1, -1}}, {beam(at(0, far), 1i), [4]int{1, 1, 0, 1}}, {beam(at(0, far), 1i), [4]int{0, 1, 1, 1}}, {beam(at(0, -far), 1i), [4]int{1, -1, 0, 1}}, {beam(at(0, -far), 1i), [4]int{0, 1, 1, -1}},
		{beam(far, far), [4]int{1, 1, 0, 1}}, {b, [4]int{far, 0, 0, 1}}, {b, [4]int{1, 0, 0, -far}}, {beam(at(far, far), at(far, far)), [4]int{far, far, -far, -far}}, {beam(at(-far, far), at(-far, far)), [4]int{far, far, far, far}},
	} {
		checkCarry(t, c.b, c.m, gauss.Beam{})
	}
}

// matrices are some, of small numbers and of those at the bounds.
func matrices() [][4]int {
	l := [][4]int{{1, 0, 0, 1}, {0, 1, 1, 0}, {far, 0, 0, 1}, {-far, far, 1, 1}, {1 - far, far, far, 1 - far}, {far, 1 - far, 1 - far, far}, {far, -far, 3, 4}, {0, far, -far, 0}, {far, far, far, far}}
	for k := range 40 {
		l = append(l, [4]int{k*k%11 - 5, k*7%13 - 6, k*5%9 - 4, k%7 - 3})
	}
	return l
}

// TestCarryByParts holds Carry of all beams against what becomes of their parts, in whole numbers.
func TestCarryByParts(t *testing.T) {
	some, none := 0, 0
	for _, n := range few() {
		for _, d := range few() {
			for _, m := range matrices() {
				mix := func(k, l int) (int, int) {
					return k*int(real(n)) + l*int(real(d)), k*int(imag(n)) + l*int(imag(d))
				}
				a, b := mix(m[0], m[1])
				c, e := mix(m[2], m[3])
				want := beam(at(a, b), at(c, e))
				if max(a, b, c, e) > far || min(a, b, c, e) < -far || n == 0 && d == 0 {
					want = gauss.Beam{}
				}
				if want == (gauss.Beam{}) {
					none++
				} else {
					some++
				}
				checkCarry(t, beam(n, d), m, want)
			}
		}
	}
	if some < 3000 || none < 3000 {
		t.Errorf("8.3: only %d come, %d don't", some, none)
	}
}

// cross is the product of a and b, in parts, by numbers that are never rounded.
func cross(a, b complex128) (x, y *big.Int) {
	part := func(p, q float64) *big.Int {
		return new(big.Int).Mul(big.NewInt(int64(p)), big.NewInt(int64(q)))
	}
	x = new(big.Int).Sub(part(real(a), real(b)), part(imag(a), imag(b)))
	y = new(big.Int).Add(part(real(a), imag(b)), part(imag(a), real(b)))
	return x, y
}

// checkSame holds Same, either way round.
func checkSame(t *testing.T, a, b gauss.Beam, want bool) {
	t.Helper()
	if gauss.Same(a, b) != want || gauss.Same(b, a) != want {
		t.Errorf("8.3: Same of %v and %v is not %v", a, b, want)
	}
}

// TestSame: the products crosswise are the same.
func TestSame(t *testing.T) {
	b := beam(3+4i, 1-2i)
	for _, c := range []struct {
		a, b gauss.Beam
		want bool
	}{
		{b, b, true}, {b, beam(6+8i, 2-4i), true}, {b, beam(-4+3i, 2+1i), true}, {b, beam(-3-4i, -1+2i), true}, {b, beam(b.N*(5-7i), b.D*(5-7i)), true}, {b, beam(1-2i, 3+4i), false}, {b, beam(3-4i, 1+2i), false}, {b, beam(3+4i, 1), false}, {b, beam(4+4i, 1-2i), false}, {b, beam(3+5i, 1-2i), false}, {b, beam(3+4i, 2-2i), false}, {b, beam(3+4i, 1-1i), false},
		// One part of the products is the same, the other is not.
		{beam(1+1i, 1), beam(1-1i, 1), false}, {beam(1+1i, 1), beam(-1+1i, 1), false}, {beam(2, 1), beam(2+1i, 1), false},
		// A D of 0, an N of 0.
		{beam(1, 0), beam(-7i, 0), true}, {beam(1, 0), beam(0, 1), false}, {beam(0, 1), beam(0, 3-2i), true}, {beam(1, 0), b, false}, {beam(0, 1), b, false}, {beam(far, 0), beam(at(far, far), 0), true},
		{beam(complex(minus(), 0), 1), beam(0, -5), true}, {beam(complex(3, minus()), 1), beam(6, complex(2, minus())), true},
	} {
		checkSame(t, c.a, c.b, c.want)
	}
}

// TestSameNearly: products of large parts, which nearly are the same.
func TestSameNearly(t *testing.T) {
	for _, c := range []struct {
		a, b gauss.Beam
		want bool
	}{
		{beam(far, far), beam(far-1, far-1), true}, {beam(far, far-1), beam(far-1, far-2), false}, {beam(far, far-1), beam(far, far-1), true}, {beam(at(0, far), far-1), beam(at(0, far-1), far-2), false}, {beam(-far, far-1), beam(far-1, 2-far), false}, {beam(far, 1-far), beam(-far, far-1), true},
		{beam(at(far, far), far-1), beam(at(far-1, far-1), far-2), false}, {beam(at(far, far), at(far, 1-far)), beam(at(far, far), at(far, 2-far)), false}, {beam(at(far, far), at(far, far-1)), beam(at(far, far), at(far-1, far)), false}, {beam(at(far, far), at(far, -far)), beam(1i, 1), true}, {beam(at(far, far), at(far, 1-far)), beam(1i, 1), false}, {beam(at(far, far-1), at(far, -far)), beam(1i, 1), false},
		// Products that differ by 1 in one part alone.
		{beam(at(far, 1), at(far, 0)), beam(1, 1), false}, {beam(at(far-1, far), at(far, far)), beam(1, 1), false},
	} {
		checkSame(t, c.a, c.b, c.want)
	}
}

// TestSameNone: what is no beam is the same as none, itself included.
func TestSameNone(t *testing.T) {
	b := beam(3+4i, 1-2i)
	noBeams := []gauss.Beam{{}, beam(complex(minus(), 0), complex(0, minus()))}
	for _, z := range wrong() {
		noBeams = append(noBeams, beam(z, 1), beam(1, z), beam(z, 0), beam(0, z), beam(z, z))
	}
	for _, c := range noBeams {
		checkSame(t, c, c, false)
		checkSame(t, c, b, false)
		checkSame(t, c, gauss.Beam{}, false)
		checkSame(t, c, beam(c.D, c.N), false)
		checkSame(t, c, beam(1, 0), false)
		checkSame(t, c, beam(0, 1), false)
	}
	// They would be, if their parts were whole and their products exact.
	checkSame(t, beam(0.5, 1), beam(1, 2), false)
	checkSame(t, beam(far+1, far+1), beam(1, 1), false)
	checkSame(t, beam(1<<60, 1<<60), beam(1, 1), false)
}

// TestSameByParts holds Same of all beams against products that are exact.
func TestSameByParts(t *testing.T) {
	var beams []gauss.Beam
	for _, n := range few() {
		for _, d := range few() {
			if n != 0 || d != 0 {
				beams = append(beams, beam(n, d))
			}
		}
	}
	same := 0
	for k, a := range beams {
		for _, b := range beams[k:] {
			x, y := cross(a.N, b.D)
			p, q := cross(b.N, a.D)
			want := x.Cmp(p) == 0 && y.Cmp(q) == 0
			if want {
				same++
			}
			checkSame(t, a, b, want)
		}
	}
	if same < 2*len(few()) {
		t.Errorf("8.3: only %d of them are the same", same)
	}
}

// TestSameCarried: what is the same is so when it is carried, as it is when its parts are turned together.
func TestSameCarried(t *testing.T) {
	count := 0
	for _, n := range few() {
		for _, d := range few() {
			for k := range 4 {
				b, c := beam(n, d), beam(gauss.Turn(n, k), gauss.Turn(d, k))
				if n == 0 && d == 0 {
					continue
				}
				checkSame(t, b, c, true)
				for _, m := range matrices() {
					p, ok := gauss.Carry(b, m)
					q, also := gauss.Carry(c, m)
					if ok != also {
						t.Errorf("W3: Carry of %v, of %v by %v: %v, %v", b, c, m, ok, also)
					}
					if ok {
						count++
						checkSame(t, p, q, true)
					}
				}
			}
		}
	}
	if count < 9000 {
		t.Errorf("W3: only %d come", count)
	}
}

// TestNoPanic: whatever is handed in, each call ends, and a part of what it answers is not -0 (R1).
func TestNoPanic(t *testing.T) {
	l := append(append(few(), zeros()...), wrong()...)
	for k, z := range l {
		w := l[(k*7+5)%len(l)]
		gauss.Whole(z)
		gauss.Norm(z)
		for j, n := range counts() {
			gauss.InDisc(z, n)
			m := [4]int{n, counts()[(j*3+1)%len(counts())], counts()[(j*5+k)%len(counts())], counts()[(j+k)%len(counts())]}
			b, _ := gauss.Carry(beam(z, w), m)
			c, _ := gauss.Carry(beam(w, z), m)
			for _, got := range []complex128{gauss.Turn(z, n), gauss.Mirror(z), b.N, b.D, c.N, c.D} {
				if !plain(got) || !gauss.Whole(got) {
					t.Errorf("8.1: of %v, %v and %v: %v", z, w, m, got)
				}
			}
		}
		gauss.Same(beam(z, w), beam(w, z))
	}
	for _, n := range counts() {
		gauss.Cells(n)
	}
}

package vec_test

import (
	"math"
	"math/big"
	"testing"

	"meniscus/api"
	"meniscus/iv"
	"meniscus/vec"
)

const (
	one  = api.One
	most = api.Most
)

var (
	none  = api.Iv{No: true}
	nones = api.V{X: none, Y: none, Z: none}
)

func of(lo, hi int) api.Iv {
	return api.Iv{Lo: lo, Hi: hi}
}

func point(n int) api.Iv {
	return of(n, n)
}

func box(x, y, z api.Iv) api.V {
	return api.V{X: x, Y: y, Z: z}
}

// at is a place of numbers of steps.
func at(x, y, z int) api.V {
	return box(point(x), point(y), point(z))
}

// whole is a place of whole numbers: One steps to each 1.
func whole(x, y, z int) api.V {
	return at(x*one, y*one, z*one)
}

// all is a box with three like parts.
func all(a api.Iv) api.V {
	return box(a, a, a)
}

// wrong are intervals that are not right: No, an end that is not In, Lo above Hi.
func wrong() []api.Iv {
	l := []api.Iv{
		none, {Lo: 1, Hi: 2, No: true}, {Lo: 0, Hi: one, No: true}, {Lo: most, Hi: most, No: true}, {Lo: 5, Hi: -5, No: true}, {Lo: math.MinInt, Hi: math.MaxInt, No: true},
		of(1, 0), of(0, -1), of(most, -most), of(most, most-1), of(math.MaxInt, math.MinInt), of(math.MinInt, math.MaxInt),
	}
	for _, end := range []int{most + 1, -most - 1, 1 << 32, -1 << 32, 1 << 62, math.MaxInt, math.MinInt, math.MinInt + 1} {
		l = append(l, of(end, end), of(min(0, end), max(0, end)), of(max(0, end), min(0, end)), of(-most, end), of(end, most))
	}
	return l
}

// some are intervals of all sizes, points and the bounds among them.
func some() []api.Iv {
	return []api.Iv{
		of(0, 0), of(1, 1), of(-1, 1), of(one, one), of(-one, 2*one), of(3*one, 5*one), of(-7*one, -one/3), of(one/2, one/2+3), of(-21845, 21846), of(-3, 5),
		of(257, 300), of(-8388609, -8388607), of(5931641, 5931642), of(1000003, 1000004), of(-most, most), of(0, most), of(most, most), of(-most, -most), of(-most, 1-most),
	}
}

// small are intervals of which sums, products and lengths stay within the bounds.
func small() []api.Iv {
	return []api.Iv{
		of(0, 0), of(one, one), of(-one, 2*one), of(3*one, 5*one), of(-7*one, -one/3), of(one/2, one/2+3), of(-21845, 21846), of(1, 2), of(-3, 5), of(-4*one, -4*one), of(60*one, 61*one),
	}
}

// pick is one of the list, in a fixed way that goes through it in no simple order.
func pick(list []api.Iv, n int) api.Iv {
	return list[(n*n*7+n*3+n/len(list))%len(list)]
}

// right are boxes of all sizes.
func right() []api.V {
	var l []api.V
	for n := range 30 {
		l = append(l, box(pick(small(), n), pick(small(), n*3+1), pick(small(), n*5+2)), box(pick(some(), n), pick(some(), n*5+3), pick(some(), n*3+1)))
	}
	for _, a := range some() {
		l = append(l, all(a), box(a, point(one), of(-one, one)))
	}
	return l
}

// notRight are boxes with one part, or more, that is not right.
func notRight() []api.V {
	x, y, z := of(-3, 5), of(one, 2*one), of(-4*one, -one)
	l := []api.V{box(none, none, z), box(x, none, none), box(none, y, none)}
	for _, bad := range wrong() {
		l = append(l, box(bad, y, z), box(x, bad, z), box(x, y, bad), all(bad))
	}
	return l
}

func boxes() []api.V {
	return append(right(), notRight()...)
}

func check(t *testing.T, what string, got, want api.V) {
	t.Helper()
	if got != want {
		t.Errorf("%s: %+v, not %+v", what, got, want)
	}
}

func checkIv(t *testing.T, what string, got, want api.Iv) {
	t.Helper()
	if got != want {
		t.Errorf("%s: %+v, not %+v", what, got, want)
	}
}

func checkIs(t *testing.T, what string, got, want bool) {
	t.Helper()
	if got != want {
		t.Errorf("%s: %t", what, got)
	}
}

func TestExample(t *testing.T) {
	check(t, "5.1: the example of chapter 5", vec.Unit(whole(3, 0, 4)), box(of(39321, 39322), point(0), of(52428, 52429)))
}

// TestOf: each part in its place, as it is, whatever it is.
func TestOf(t *testing.T) {
	for _, a := range append(boxes(), box(of(1, 2), of(3, 4), of(5, 6))) {
		check(t, "5.1: Of", vec.Of(a.X, a.Y, a.Z), a)
	}
}

// TestRight: all three parts have to be; each alone is enough to be wrong.
func TestRight(t *testing.T) {
	for _, a := range right() {
		if !vec.Right(a) {
			t.Errorf("5.1: Right(%+v) is false", a)
		}
	}
	for _, a := range notRight() {
		if vec.Right(a) {
			t.Errorf("5.1: Right(%+v) is true", a)
		}
	}
	for _, a := range []api.V{all(of(-most, most)), at(-most, most, 0), {}} {
		checkIs(t, "5.1: Right at the bounds", vec.Right(a), true)
	}
	for k, bad := range []api.Iv{{No: true}, {Lo: 1, Hi: 2, No: true}, of(most, most+1), of(-most-1, -most), of(2, 1)} {
		for _, a := range []api.V{box(bad, point(1), point(1)), box(point(1), bad, point(1)), box(point(1), point(1), bad)} {
			if vec.Right(a) {
				t.Errorf("5.1: Right with a wrong part (%d): %+v", k, a)
			}
		}
	}
}

// binary is a call of two boxes that goes part by part, and iv's of two parts.
type binary struct {
	name string
	call func(a, b api.V) api.V
	part func(a, b api.Iv) api.Iv
}

func binaries() []binary {
	return []binary{{"Add", vec.Add, iv.Add}, {"Sub", vec.Sub, iv.Sub}, {"Hull", vec.Hull, iv.Hull}}
}

func TestAddSubHull(t *testing.T) {
	a, b := box(of(1, 2), of(-30, 40), of(500, 600)), box(of(10, 30), of(100, 100), of(-7, 8))
	check(t, "5.1: Add", vec.Add(a, b), box(of(11, 32), of(70, 140), of(493, 608)))
	check(t, "5.1: Sub", vec.Sub(a, b), box(of(-29, -8), of(-130, -60), of(492, 607)))
	check(t, "5.1: Sub the other way", vec.Sub(b, a), box(of(8, 29), of(60, 130), of(-607, -492)))
	check(t, "5.1: Hull", vec.Hull(a, b), box(of(1, 30), of(-30, 100), of(-7, 600)))
	// At the bounds, and past them in one part.
	check(t, "5.1: Add at the bounds", vec.Add(at(most-1, -most, 0), at(1, 0, most)), at(most, -most, most))
	check(t, "5.1: Add past them", vec.Add(at(most, -most, most), at(1, -1, 0)), box(none, none, point(most)))
	check(t, "5.1: Sub past them", vec.Sub(at(most, 0, -most), at(0, -most, 1)), box(point(most), point(most), none))
	check(t, "5.1: Hull of the bounds", vec.Hull(all(point(most)), all(point(-most))), all(of(-most, most)))
}

// TestPartByPart holds all boxes by all, not right ones too, against iv.
func TestPartByPart(t *testing.T) {
	for _, op := range binaries() {
		for _, a := range boxes() {
			for _, b := range boxes() {
				if got, want := op.call(a, b), box(op.part(a.X, b.X), op.part(a.Y, b.Y), op.part(a.Z, b.Z)); got != want {
					t.Errorf("5.1: %s(%+v, %+v) = %+v, not %+v", op.name, a, b, got, want)
				}
			}
		}
	}
}

// TestOneThatIsNotRight: a part that is not right is None in its place; the others are as they are without it.
func TestOneThatIsNotRight(t *testing.T) {
	a, b := whole(1, 2, 3), whole(40, 50, 60)
	for _, bad := range wrong() {
		check(t, "5.1: Add, x wrong", vec.Add(box(bad, a.Y, a.Z), b), box(none, point(52*one), point(63*one)))
		check(t, "5.1: Add, y wrong", vec.Add(a, box(b.X, bad, b.Z)), box(point(41*one), none, point(63*one)))
		check(t, "5.1: Sub, z wrong", vec.Sub(box(a.X, a.Y, bad), b), box(point(-39*one), point(-48*one), none))
		check(t, "5.1: Hull, y wrong", vec.Hull(box(a.X, bad, a.Z), b), box(of(one, 40*one), none, of(3*one, 60*one)))
		check(t, "5.1: Scale, x wrong", vec.Scale(box(bad, a.Y, a.Z), point(2*one)), box(none, point(4*one), point(6*one)))
		check(t, "5.1: Scale, y wrong", vec.Scale(box(a.X, bad, a.Z), point(2*one)), box(point(2*one), none, point(6*one)))
		check(t, "5.1: Scale, z wrong", vec.Scale(box(a.X, a.Y, bad), point(2*one)), box(point(2*one), point(4*one), none))
		check(t, "5.1: Scale by what is wrong", vec.Scale(a, bad), nones)
	}
}

func TestScale(t *testing.T) {
	check(t, "5.1: Scale", vec.Scale(whole(1, -2, 3), point(-2*one)), whole(-2, 4, -6))
	check(t, "5.1: Scale by an interval", vec.Scale(whole(1, -2, 0), of(-one, 3*one)), box(of(-one, 3*one), of(-6*one, 2*one), point(0)))
	check(t, "5.1: Scale is rounded outward", vec.Scale(box(point(1), point(-1), of(-1, 1)), point(one/2)), box(of(0, 1), of(-1, 0), of(-1, 1)))
	check(t, "5.1: Scale past the bounds", vec.Scale(at(most/2, most/2+1, -most/2), point(2*one)), box(point(most), none, point(-most)))
	for _, a := range boxes() {
		for _, k := range append(some(), wrong()...) {
			if got, want := vec.Scale(a, k), box(iv.Mul(a.X, k), iv.Mul(a.Y, k), iv.Mul(a.Z, k)); got != want {
				t.Errorf("5.1: Scale(%+v, %+v) = %+v, not %+v", a, k, got, want)
			}
		}
	}
}

func TestDot(t *testing.T) {
	root := 1 << 23 // Its product with itself is Most.
	for _, c := range []struct {
		what string
		a, b api.V
		want api.Iv
	}{
		{"of wholes", whole(1, -2, 3), whole(4, 5, -6), point(-24 * one)}, {"of x alone", whole(2, 0, 0), whole(3, 7, 7), point(6 * one)}, {"of y alone", whole(0, 2, 0), whole(7, 3, 7), point(6 * one)}, {"of z alone", whole(0, 0, 2), whole(7, 7, 3), point(6 * one)},
		{"of ways across", whole(1, 2, 0), whole(-2, 1, 5), point(0)}, {"of intervals", box(of(-one, one), of(0, one), point(one)), box(point(2*one), of(-one, 3*one), of(5*one, 7*one)), of(2*one, 12*one)},
		// A box by itself has no squares: its signs are not known to be alike.
		{"of a box by itself", box(of(-one, one), point(0), of(-2*one, one)), box(of(-one, one), point(0), of(-2*one, one)), of(-3*one, 5*one)},
		// Each product is rounded by itself, ahead of the sum.
		{"rounded", all(point(1)), all(point(1)), of(0, 3)}, {"rounded, below 0", all(point(1)), all(point(-1)), of(-3, 0)}, {"rounded, both", at(1, 1, one), at(one/2, -one/2, one), of(one-1, one+1)},
		// At the bounds, and past them: one product; the first two's sum, though z's would lead back; the whole sum.
		{"at the bounds", at(root, 0, 0), at(root, 0, 0), point(most)}, {"x's past them", at(root+1, 0, 0), at(root, 0, 0), none}, {"y's past them", at(0, root+1, 0), at(0, root, 0), none}, {"z's past them", at(0, 0, root+1), at(0, 0, root), none},
		{"x's and y's past them", at(root, one, one), at(root, one, -one), none}, {"y's and x's past them", at(one, root, -one), at(one, root, one), none}, {"x's and y's below them", at(-root, -one, one), at(root, one, one), none},
		{"z's leads past them", at(root, 0, 1), at(root, 0, one), none}, {"z's with y's would", at(root, -one, one), at(root, one, one), point(most)}, {"z's with x's would", at(one, root, one), at(-one, root, one), point(most)},
		{"z's at the bounds", at(one, -one, root), at(one, one, root), point(most)}, {"to both bounds", box(of(-root, root), point(0), point(0)), at(root, 0, 0), of(-most, most)},
	} {
		checkIv(t, "5.1: Dot "+c.what, vec.Dot(c.a, c.b), c.want)
		checkIv(t, "5.1: Dot, the other way, "+c.what, vec.Dot(c.b, c.a), c.want)
	}
	for _, a := range boxes() {
		for _, b := range boxes() {
			if got, want := vec.Dot(a, b), iv.Add(iv.Add(iv.Mul(a.X, b.X), iv.Mul(a.Y, b.Y)), iv.Mul(a.Z, b.Z)); got != want {
				t.Errorf("5.1: Dot(%+v, %+v) = %+v, not %+v", a, b, got, want)
			}
		}
	}
}

// TestNoProductOfWhatIsNotRight: one part that is not right leaves nothing to be said, though the other's is 0.
func TestNoProductOfWhatIsNotRight(t *testing.T) {
	for _, a := range notRight() {
		checkIv(t, "5.1: Len2 of what is not right", vec.Len2(a), none)
		check(t, "5.1: Unit of what is not right", vec.Unit(a), nones)
		for _, b := range append(right(), at(0, 0, 0)) {
			checkIv(t, "5.1: Dot with what is not right", vec.Dot(a, b), none)
			checkIv(t, "5.1: Dot with what is not right", vec.Dot(b, a), none)
		}
	}
}

func TestLen2(t *testing.T) {
	root := 1 << 23
	for _, c := range []struct {
		what string
		a    api.V
		want api.Iv
	}{
		{"of a whole way", whole(1, -2, 3), point(14 * one)}, {"of no way", at(0, 0, 0), point(0)}, {"of x", whole(-5, 0, 0), point(25 * one)}, {"of y", whole(0, -5, 0), point(25 * one)}, {"of z", whole(0, 0, -5), point(25 * one)},
		// They are squares: never below 0.
		{"of a box about 0", all(of(-one, one)), of(0, 3*one)}, {"of boxes about 0", box(of(-one, 2*one), of(-3*one, one), of(-one, 0)), of(0, 14*one)}, {"of a box", box(of(one, 2*one), of(-3*one, -2*one), of(0, one)), of(5*one, 14*one)},
		{"rounded", all(point(1)), of(0, 3)}, {"rounded, of a box", all(of(-1, 1)), of(0, 3)},
		{"at the bounds", at(root, 0, 0), point(most)}, {"of x past them", at(-root-1, 0, 0), none}, {"of y past them", at(0, root+1, 0), none}, {"of z past them", at(0, 0, root+1), none},
		{"of x and y past them", at(root, 1, 0), none}, {"of y and z past them", at(0, root, 1), none}, {"of x and z past them", at(1, 0, root), none}, {"of all past them", whole(73, 74, 75), none}, {"of all, short of them", whole(73, 73, 75), point(16283 * one)},
		{"of a box past them", box(of(-root-1, 0), point(0), point(0)), none}, {"of the bounds", all(of(-most, most)), none}, {"of the bound", at(-most, 0, 0), none},
	} {
		checkIv(t, "5.1: Len2 "+c.what, vec.Len2(c.a), c.want)
	}
	for _, a := range boxes() {
		if got, want := vec.Len2(a), iv.Add(iv.Add(iv.Sqr(a.X), iv.Sqr(a.Y)), iv.Sqr(a.Z)); got != want {
			t.Errorf("5.1: Len2(%+v) = %+v, not %+v", a, got, want)
		}
	}
}

func TestUnit(t *testing.T) {
	for _, c := range []struct {
		what    string
		a, want api.V
	}{
		{"along x", whole(7, 0, 0), whole(1, 0, 0)}, {"along y", whole(0, 7, 0), whole(0, 1, 0)}, {"along the axis", whole(0, 0, 7), whole(0, 0, 1)}, {"back", whole(0, 0, -7), whole(0, 0, -1)}, {"of a way as long as 1", whole(0, -1, 0), whole(0, -1, 0)},
		{"of x and z", whole(3, 0, -4), box(of(39321, 39322), point(0), of(-52429, -52428))}, {"of y and z", whole(0, -4, 3), box(point(0), of(-52429, -52428), of(39321, 39322))}, {"of x and y", whole(-4, 3, 0), box(of(-52429, -52428), of(39321, 39322), point(0))},
		{"of three", whole(2, -6, 9), box(of(11915, 11916), of(-35747, -35746), of(53620, 53621))},
		// A box's parts go by all lengths that it has.
		{"of a box", box(of(0, 3*one), point(0), point(4*one)), box(of(0, 49152), point(0), of(52428, one))}, {"of a box across 0", box(of(-3*one, 3*one), of(0, 0), of(4*one, 4*one)), box(of(-49152, 49152), point(0), of(52428, one))},
		{"of a box to its farther end", box(point(3*one), point(0), of(0, 4*one)), box(of(39321, one), point(0), of(0, 87382))},
		// The lengths at the bounds, and past them.
		{"at the bounds", at(1<<23, 0, 0), whole(1, 0, 0)}, {"past the bounds", at(1<<23, 1, 0), nones}, {"far past the bounds", whole(200, 0, 0), nones}, {"of the greatest", all(point(most)), nones}, {"of all", all(of(-most, most)), nones},
		// No length, or one that holds 0.
		{"without length", at(0, 0, 0), nones}, {"that may be without length", all(of(-1, 1)), nones}, {"to 0", box(of(0, one), of(-one, 0), of(0, one)), nones}, {"about 0 in all parts", box(of(-one, 5*one), of(-2*one, one), of(-one, one)), nones},
		// The square of so short a way is rounded down to 0.
		{"shorter than can be told", at(1, 0, 0), nones}, {"a step too short", at(255, 0, 0), nones}, {"just long enough", at(256, 0, 0), whole(1, 0, 0)},
	} {
		check(t, "5.1: Unit "+c.what, vec.Unit(c.a), c.want)
	}
	for _, a := range boxes() {
		long := iv.Root(iv.Add(iv.Add(iv.Sqr(a.X), iv.Sqr(a.Y)), iv.Sqr(a.Z)))
		if got, want := vec.Unit(a), box(iv.Div(a.X, long), iv.Div(a.Y, long), iv.Div(a.Z, long)); got != want {
			t.Errorf("5.1: Unit(%+v) = %+v, not %+v", a, got, want)
		}
	}
}

func TestAlong(t *testing.T) {
	o, d := whole(1, -2, 3), whole(4, 5, -6)
	check(t, "5.1: Along", vec.Along(api.Ray{O: o, D: d}, point(2*one)), whole(9, 8, -9))
	check(t, "5.1: Along back", vec.Along(api.Ray{O: o, D: d}, point(-one)), whole(-3, -7, 9))
	check(t, "5.1: Along of nothing", vec.Along(api.Ray{O: o, D: d}, point(0)), o)
	check(t, "5.1: Along an interval", vec.Along(api.Ray{O: o, D: d}, of(0, one)), box(of(one, 5*one), of(-2*one, 3*one), of(-3*one, 3*one)))
	check(t, "5.1: Along, rounded", vec.Along(api.Ray{O: at(7, 7, 7), D: at(1, -1, 0)}, point(1)), box(of(7, 8), of(6, 7), point(7)))
	check(t, "5.1: Along past the bounds", vec.Along(api.Ray{O: at(most, -most, most), D: at(1, 1, 0)}, point(one)), box(none, point(1-most), point(most)))
	// The product is done first: where it leaves the bounds, the sum is none, though it would lie within them.
	check(t, "5.1: Along past the bounds and back", vec.Along(api.Ray{O: at(-most, 0, 0), D: at(most, one, one)}, point(2*one)), box(none, point(2*one), point(2*one)))
	ts := append(some(), wrong()...)
	for n, o := range boxes() {
		for m, d := range boxes() {
			k := ts[(n*31+m*17)%len(ts)]
			want := box(iv.Add(o.X, iv.Mul(d.X, k)), iv.Add(o.Y, iv.Mul(d.Y, k)), iv.Add(o.Z, iv.Mul(d.Z, k)))
			if got := vec.Along(api.Ray{O: o, D: d}, k); got != want {
				t.Errorf("5.1: Along(%+v, %+v; %+v) = %+v, not %+v", o, d, k, got, want)
			}
		}
	}
}

func TestInside(t *testing.T) {
	a := box(of(-1, 1), of(10, 20), of(-30, 40))
	for _, c := range []struct {
		what string
		b    api.V
		want bool
	}{
		{"of itself", a, true}, {"at one end each", at(-1, 20, 40), true}, {"within", box(of(0, 1), of(10, 19), of(-29, 39)), true},
		{"x too low", box(of(-2, 1), a.Y, a.Z), false}, {"x too high", box(of(-1, 2), a.Y, a.Z), false}, {"y too low", box(a.X, of(9, 20), a.Z), false}, {"y too high", box(a.X, of(10, 21), a.Z), false}, {"z too low", box(a.X, a.Y, of(-31, 40)), false}, {"z too high", box(a.X, a.Y, of(-30, 41)), false},
		{"x elsewhere", box(point(7), a.Y, a.Z), false}, {"y elsewhere", box(a.X, point(0), a.Z), false}, {"z elsewhere", box(a.X, a.Y, point(99)), false}, {"of none", nones, false},
	} {
		checkIs(t, "5.1: Inside "+c.what, vec.Inside(c.b, a), c.want)
	}
	checkIs(t, "5.1: Inside the bounds", vec.Inside(all(of(-most, most)), all(of(-most, most))), true)
	for _, a := range boxes() {
		for _, b := range boxes() {
			if got, want := vec.Inside(a, b), iv.Inside(a.X, b.X) && iv.Inside(a.Y, b.Y) && iv.Inside(a.Z, b.Z); got != want {
				t.Errorf("5.1: Inside(%+v, %+v) = %t", a, b, got)
			}
		}
	}
}

// TestInsideOfWhatIsNotRight: nothing is in it, nor it in anything, itself and all there is among them.
func TestInsideOfWhatIsNotRight(t *testing.T) {
	for _, bad := range notRight() {
		checkIs(t, "5.1: Inside of what is not right, itself", vec.Inside(bad, bad), false)
		for _, a := range append(right(), all(of(-most, most)), at(0, 0, 0)) {
			checkIs(t, "5.1: what is not right, Inside", vec.Inside(bad, a), false)
			checkIs(t, "5.1: Inside of what is not right", vec.Inside(a, bad), false)
		}
	}
}

// turns are numbers of quarter turns of each remainder, below 0 too and at the ends of int.
func turns() map[int]int {
	m := map[int]int{
		math.MinInt: 0, math.MinInt + 1: 1, math.MinInt + 2: 2, math.MinInt + 3: 3, math.MaxInt: 3, math.MaxInt - 1: 2, math.MaxInt - 2: 1, math.MaxInt - 3: 0,
		1 << 32: 0, 1<<32 + 1: 1, -1<<32 + 2: 2, -1<<32 - 1: 3,
	}
	for k := range 4 {
		for _, round := range []int{-400, -8, -4, 0, 4, 8, 400} {
			m[round+k] = k
		}
	}
	return m
}

func TestTurn(t *testing.T) {
	a := box(of(1, 2), of(-5, 7), of(3, 4))
	want := [4]api.V{a, box(of(-7, 5), of(1, 2), a.Z), box(of(-2, -1), of(-7, 5), a.Z), box(of(-5, 7), of(-2, -1), a.Z)}
	for k, rest := range turns() {
		if got := vec.Turn(a, k); got != want[rest] {
			t.Errorf("5.1: Turn(%+v, %d) = %+v, not %+v", a, k, got, want[rest])
		}
	}
	for k, want := range []api.V{whole(1, 0, 5), whole(0, 1, 5), whole(-1, 0, 5), whole(0, -1, 5), whole(1, 0, 5)} {
		check(t, "5.1: Turn is counter-clockwise", vec.Turn(whole(1, 0, 5), k), want)
	}
}

// turned is a after one quarter turn, by the words of the promise.
func turned(a api.V) api.V {
	return box(iv.Neg(a.Y), a.X, a.Z)
}

// TestTurnOneBehindTheOther: so it is of all boxes, not right ones too; that a part was negated twice is to be seen.
func TestTurnOneBehindTheOther(t *testing.T) {
	for _, a := range boxes() {
		want := [4]api.V{a, turned(a), turned(turned(a)), turned(turned(turned(a)))}
		for k, rest := range turns() {
			if got := vec.Turn(a, k); got != want[rest] {
				t.Errorf("5.1: Turn(%+v, %d) = %+v, not %+v", a, k, got, want[rest])
			}
		}
	}
}

// TestTurnLeaves: parts that are not negated stay as they are, right or not; negated ones that are not right are None.
func TestTurnLeaves(t *testing.T) {
	y, z := of(-5, 7), of(3, 4)
	for _, bad := range wrong() {
		for _, k := range []int{0, 4, -4, math.MinInt} {
			check(t, "5.1: Turn by nothing", vec.Turn(all(bad), k), all(bad))
		}
		check(t, "5.1: Turn, once, of x that is not right", vec.Turn(box(bad, y, z), 1), box(of(-7, 5), bad, z))
		check(t, "5.1: Turn, once, of y that is not right", vec.Turn(box(y, bad, z), 1), box(none, y, z))
		check(t, "5.1: Turn, once, of z that is not right", vec.Turn(box(y, y, bad), 1), box(of(-7, 5), y, bad))
		check(t, "5.1: Turn, twice, of x and z that are not right", vec.Turn(box(bad, y, bad), 2), box(none, of(-7, 5), bad))
		check(t, "5.1: Turn, twice, of y that is not right", vec.Turn(box(y, bad, z), 2), box(of(-7, 5), none, z))
		check(t, "5.1: Turn, thrice, of x that is not right", vec.Turn(box(bad, y, z), 3), box(y, none, z))
		check(t, "5.1: Turn, thrice, of y and z that are not right", vec.Turn(box(y, bad, bad), 3), box(none, of(-7, 5), bad))
		check(t, "5.1: Turn, -1, of y that is not right", vec.Turn(box(y, bad, z), -1), box(none, of(-7, 5), z))
	}
}

func TestMirror(t *testing.T) {
	check(t, "5.1: Mirror", vec.Mirror(box(of(1, 2), of(-5, 7), of(3, 4))), box(of(1, 2), of(-7, 5), of(3, 4)))
	check(t, "5.1: Mirror of the bounds", vec.Mirror(at(most, most, -most)), at(most, -most, -most))
	check(t, "5.1: Mirror of nothing", vec.Mirror(at(0, 0, 0)), at(0, 0, 0))
	for _, a := range boxes() {
		check(t, "5.1: Mirror of a box", vec.Mirror(a), box(a.X, iv.Neg(a.Y), a.Z))
	}
	for _, bad := range wrong() {
		check(t, "5.1: Mirror, y not right", vec.Mirror(all(bad)), box(bad, none, bad))
		check(t, "5.1: Mirror, x and z not right", vec.Mirror(box(bad, of(-5, 7), bad)), box(bad, of(-7, 5), bad))
	}
}

// within are some whole numbers in a.
func within(a api.Iv) []int {
	return []int{a.Lo, a.Lo + (a.Hi-a.Lo)/3, a.Lo + (a.Hi-a.Lo)/2, a.Hi}
}

// lesser are some intervals that lie in a.
func lesser(a api.Iv) []api.Iv {
	ns := within(a)
	return []api.Iv{a, point(ns[0]), point(ns[1]), point(ns[3]), of(ns[0], ns[2]), of(ns[1], ns[3]), of(ns[1], ns[2])}
}

// less are some boxes that lie in a.
func less(a api.V) []api.V {
	l := []api.V{box(a.X, a.Y, point(a.Z.Lo)), box(point(a.X.Hi), a.Y, a.Z), box(a.X, point(a.Y.Lo), a.Z)}
	for k := range 7 {
		l = append(l, box(lesser(a.X)[k], lesser(a.Y)[(k*2+1)%7], lesser(a.Z)[(k*3+2)%7]))
	}
	return l
}

// tells counts what said something, and complains where an answer of less is not in it, part by part.
func tells(t *testing.T, said *int, what string, got, more api.V) {
	t.Helper()
	for k, part := range []api.Iv{more.X, more.Y, more.Z} {
		if part.No {
			continue
		}
		*said++
		if inner := [3]api.Iv{got.X, got.Y, got.Z}[k]; !iv.Inside(inner, part) {
			t.Errorf("W1: %s of less: part %d, %+v, is not in %+v", what, k, inner, part)
		}
	}
}

// TestLess: of less each call tells less, if it told anything of more (W1).
func TestLess(t *testing.T) {
	said := 0
	for _, a := range right() {
		for _, p := range less(a) {
			if !vec.Inside(p, a) || !vec.Right(p) {
				t.Errorf("5.1: Inside(%+v, %+v) or Right of it is false", p, a)
			}
			tells(t, &said, "Unit", vec.Unit(p), vec.Unit(a))
			tells(t, &said, "Len2", all(vec.Len2(p)), all(vec.Len2(a)))
			tells(t, &said, "Mirror", vec.Mirror(p), vec.Mirror(a))
			for k := range 4 {
				tells(t, &said, "Turn", vec.Turn(p, k), vec.Turn(a, k))
			}
			for _, b := range right() {
				q := less(b)[3]
				for _, op := range binaries() {
					tells(t, &said, op.name, op.call(p, q), op.call(a, b))
				}
				tells(t, &said, "Dot", all(vec.Dot(p, q)), all(vec.Dot(a, b)))
				tells(t, &said, "Scale", vec.Scale(p, q.Y), vec.Scale(a, b.Y))
				tells(t, &said, "Along", vec.Along(api.Ray{O: p, D: q}, q.X), vec.Along(api.Ray{O: a, D: b}, b.X))
				if outer := vec.Hull(a, b); !vec.Inside(p, outer) || !vec.Inside(q, outer) {
					t.Errorf("W1: Hull(%+v, %+v) = %+v has not both", a, b, outer)
				}
			}
		}
	}
	// Nones hold anything: the test is one only while much is said.
	if said < 100000 {
		t.Errorf("W1: only %d parts say something", said)
	}
}

// numbers are some places of numbers in a.
func numbers(a api.V) [][3]int {
	var l [][3]int
	for k := range 4 {
		l = append(l, [3]int{within(a.X)[k], within(a.Y)[k], within(a.Z)[k]}, [3]int{within(a.X)[k], within(a.Y)[3-k], within(a.Z)[(k+1)%4]})
	}
	return l
}

func great(n int) *big.Int {
	return big.NewInt(int64(n))
}

// dot is the sum of products, in steps of steps.
func dot(p, q [3]int) *big.Int {
	n := new(big.Int)
	for k := range 3 {
		n.Add(n, new(big.Int).Mul(great(p[k]), great(q[k])))
	}
	return n
}

// holds tells whether n, in steps of steps, lies in a.
func holds(a api.Iv, n *big.Int) bool {
	return new(big.Int).Mul(great(a.Lo), great(one)).Cmp(n) <= 0 && n.Cmp(new(big.Int).Mul(great(a.Hi), great(one))) <= 0
}

// signed is n times its own size: it rises as n does.
func signed(n int) *big.Int {
	return new(big.Int).Mul(great(n), new(big.Int).Abs(great(n)))
}

// holdsUnit tells whether n by the root of square, in steps, lies in a. It is asked of the squares, which are whole.
func holdsUnit(a api.Iv, n int, square *big.Int) bool {
	exact := new(big.Int).Mul(signed(n), great(one*one))
	return new(big.Int).Mul(signed(a.Lo), square).Cmp(exact) <= 0 && exact.Cmp(new(big.Int).Mul(signed(a.Hi), square)) <= 0
}

// TestHeld: of numbers in the boxes the exact products, squares and units lie in the answers (W1).
func TestHeld(t *testing.T) {
	said := 0
	for _, a := range right() {
		square, unit := vec.Len2(a), vec.Unit(a)
		for _, p := range numbers(a) {
			own := dot(p, p)
			if !square.No && !holds(square, own) {
				t.Errorf("W1: Len2(%+v) = %+v, without that of %v", a, square, p)
			}
			for k, part := range []api.Iv{unit.X, unit.Y, unit.Z} {
				if part.No {
					continue
				}
				said++
				if !holdsUnit(part, p[k], own) {
					t.Errorf("W1: Unit(%+v) = %+v, without part %d of %v", a, unit, k, p)
				}
			}
			for _, b := range right() {
				got := vec.Dot(a, b)
				for _, q := range numbers(b) {
					if !got.No && !holds(got, dot(p, q)) {
						t.Errorf("W1: Dot(%+v, %+v) = %+v, without that of %v and %v", a, b, got, p, q)
					}
				}
			}
		}
	}
	if said < 500 {
		t.Errorf("W1: only %d parts of units say something", said)
	}
}

// TestHeldAlong: a ray's exact places lie in what Along answers (W1).
func TestHeldAlong(t *testing.T) {
	said := 0
	for n, o := range right() {
		for _, d := range right() {
			by := pick(some(), n)
			got := vec.Along(api.Ray{O: o, D: d}, by)
			for i, p := range numbers(o) {
				q, k := numbers(d)[(i*3+1)%8], within(by)[i%4]
				for m, part := range []api.Iv{got.X, got.Y, got.Z} {
					if part.No {
						continue
					}
					said++
					exact := new(big.Int).Mul(great(q[m]), great(k))
					if exact.Add(exact, great(p[m]*one)); !holds(part, exact) {
						t.Errorf("W1: Along(%+v, %+v; %+v) = %+v, without part %d of %v, %v; %d", o, d, by, got, m, p, q, k)
					}
				}
			}
		}
	}
	if said < 10000 {
		t.Errorf("W1: only %d parts say something", said)
	}
}

// motions are the quarter turns, the mirror, and one behind the other.
func motions() []func(a api.V) api.V {
	l := []func(a api.V) api.V{vec.Mirror}
	for k := range 4 {
		l = append(l, func(a api.V) api.V { return vec.Turn(a, k) }, func(a api.V) api.V { return vec.Turn(vec.Mirror(a), k-2) })
	}
	return l
}

// TestTurned: what is turned, or mirrored, has its answers turned, or mirrored (W3).
func TestTurned(t *testing.T) {
	for n, move := range motions() {
		for _, a := range boxes() {
			p := move(a)
			checkIs(t, "W3: Right of what is turned", vec.Right(p), vec.Right(a))
			checkIv(t, "W3: Len2 of what is turned", vec.Len2(p), vec.Len2(a))
			check(t, "W3: Unit of what is turned", vec.Unit(p), move(vec.Unit(a)))
			for m, b := range boxes() {
				q, k := move(b), pick(some(), m)
				for _, op := range binaries() {
					if got, want := op.call(p, q), move(op.call(a, b)); got != want {
						t.Errorf("W3: %s of %+v and %+v, turned (%d): %+v, not %+v", op.name, a, b, n, got, want)
					}
				}
				checkIv(t, "W3: Dot of what is turned", vec.Dot(p, q), vec.Dot(a, b))
				checkIs(t, "W3: Inside of what is turned", vec.Inside(p, q), vec.Inside(a, b))
				check(t, "W3: Scale of what is turned", vec.Scale(p, k), move(vec.Scale(a, k)))
				check(t, "W3: Along what is turned", vec.Along(api.Ray{O: p, D: q}, k), move(vec.Along(api.Ray{O: a, D: b}, k)))
			}
		}
	}
}

// TestTurnedBack: turns add up, and a mirror undoes itself, of all that is right (W3).
func TestTurnedBack(t *testing.T) {
	for _, a := range right() {
		check(t, "W3: Mirror, twice", vec.Mirror(vec.Mirror(a)), a)
		for j := range 4 {
			check(t, "W3: Turn, and back", vec.Turn(vec.Turn(a, j), -j), a)
			check(t, "W3: Mirror, Turn, Mirror", vec.Mirror(vec.Turn(vec.Mirror(a), j)), vec.Turn(a, -j))
			for k := range 4 {
				check(t, "W3: Turn, and again", vec.Turn(vec.Turn(a, j), k), vec.Turn(a, j+k))
			}
		}
	}
}

// TestEnds: no call panics, whatever it is given (R1), and the same is answered however often it is asked (R4).
func TestEnds(t *testing.T) {
	for _, a := range boxes() {
		for _, b := range boxes() {
			for range 2 {
				vec.Right(vec.Of(a.X, b.Y, a.Z))
				for _, op := range binaries() {
					op.call(a, b)
				}
				vec.Scale(a, b.X)
				vec.Dot(a, b)
				vec.Along(api.Ray{O: a, D: b}, a.X)
				vec.Inside(a, b)
			}
		}
		first := [3]api.V{vec.Unit(a), vec.Turn(a, math.MinInt+1), vec.Mirror(a)}
		vec.Unit(all(of(most, -most)))
		if again := [3]api.V{vec.Unit(a), vec.Turn(a, math.MinInt+1), vec.Mirror(a)}; again != first {
			t.Errorf("R4: of %+v first %+v, then %+v", a, first, again)
		}
		vec.Len2(a)
	}
}

package hit_test

import (
	"math"
	"math/big"
	"testing"

	"meniscus/api"
	"meniscus/hit"
	"meniscus/iv"
	"meniscus/lens"
	"meniscus/newton"
	"meniscus/quad"
	"meniscus/sag"
	"meniscus/system"
	"meniscus/vec"
)

const (
	one  = api.One
	most = api.Most
)

var none = api.Iv{No: true}

func of(lo, hi int) api.Iv {
	return api.Iv{Lo: lo, Hi: hi}
}

func point(n int) api.Iv {
	return of(n, n)
}

// whole is a point of a whole number: One steps to each 1.
func whole(n int) api.Iv {
	return point(n * one)
}

// wholes is from one whole number to another.
func wholes(lo, hi int) api.Iv {
	return of(lo*one, hi*one)
}

func box(x, y, z api.Iv) api.V {
	return api.V{X: x, Y: y, Z: z}
}

// at is a place, or a way, of whole numbers.
func at(x, y, z int) api.V {
	return box(whole(x), whole(y), whole(z))
}

// face is one without terms: its curve, 1 and its conic constant, where its vertex is.
func face(curve, conic, at api.Iv) api.Surf {
	return api.Surf{Curve: curve, Conic: conic, At: at, A4: whole(0), A6: whole(0)}
}

// bent is one with terms.
func bent(curve, conic, at, a4, a6 api.Iv) api.Surf {
	return api.Surf{Bent: true, Curve: curve, Conic: conic, At: at, A4: a4, A6: a6}
}

// told is what Of answers.
type told struct {
	t  api.Iv
	p  api.V
	is api.Tri
}

var (
	no     = told{none, box(none, none, none), api.No}
	unsure = told{none, box(none, none, none), api.Unsure}
)

// yes is what Of answers of a face that is met.
func yes(t, x, y, z api.Iv) told {
	return told{t, box(x, y, z), api.Yes}
}

func tell(s api.Surf, r api.Ray) told {
	t, p, is := hit.Of(s, r)
	return told{t, p, is}
}

// row of a table: what is asked, and what is to be answered.
type row struct {
	what string
	s    api.Surf
	r    api.Ray
	want told
}

// turned is the row of what goes k quarters on, and mirrored: the ray and the place alike (W3).
func (r row) turned(k int, mirrored bool) row {
	move := func(v api.V) api.V {
		if mirrored {
			v = vec.Mirror(v)
		}
		return vec.Turn(v, k)
	}
	r.r.O, r.r.D = move(r.r.O), move(r.r.D)
	if r.want.is == api.Yes {
		r.want.p = move(r.want.p)
	}
	return r
}

// checkRows holds the rows, turned by quarters and mirrored.
func checkRows(t *testing.T, rows []row) {
	t.Helper()
	for _, straight := range rows {
		for k := range 8 {
			r := straight.turned(k%4, k > 3)
			if got := tell(r.s, r.r); got != r.want {
				t.Errorf("15.1: %s: Of(%+v, %+v) = %+v, not %+v", r.what, r.s, r.r, got, r.want)
			}
			for _, n := range members(r.s, r.r) {
				checkHeld(t, r.want, n)
			}
		}
	}
}

// numbers are an exact face's and an exact ray's, its place from the vertex on.
type numbers struct {
	bent                 bool
	curve, conic, a4, a6 *big.Rat
	o, d                 [3]*big.Rat
}

// rat is n / by, exact.
func rat(n, by int) *big.Rat {
	return big.NewRat(int64(n), int64(by))
}

func product(l ...*big.Rat) *big.Rat {
	p := rat(1, 1)
	for _, a := range l {
		p.Mul(p, a)
	}
	return p
}

func total(l ...*big.Rat) *big.Rat {
	p := new(big.Rat)
	for _, a := range l {
		p.Add(p, a)
	}
	return p
}

func less(a *big.Rat) *big.Rat {
	return new(big.Rat).Neg(a)
}

// within are some whole numbers in a.
func within(a api.Iv) [4]int {
	return [4]int{a.Lo, a.Lo + (a.Hi-a.Lo)/3, a.Lo + (a.Hi-a.Lo)/2, a.Hi}
}

// members are some exact faces and rays that lie in s and r; none where a number is not right.
func members(s api.Surf, r api.Ray) []numbers {
	all := []api.Iv{s.Curve, s.Conic, s.At, r.O.X, r.O.Y, r.O.Z, r.D.X, r.D.Y, r.D.Z}
	if s.Bent {
		all = append(all, s.A4, s.A6)
	}
	points := true
	for _, a := range all {
		if !iv.Right(a) {
			return nil
		}
		points = points && a.Lo == a.Hi
	}
	var l []numbers
	for k := range 4 {
		if points && k > 0 {
			break
		}
		pick := func(a api.Iv, n int) *big.Rat { return rat(within(a)[(k*n+n/4)%4], one) }
		n := numbers{s.Bent, pick(s.Curve, 1), pick(s.Conic, 3), rat(0, 1), rat(0, 1), [3]*big.Rat{pick(r.O.X, 5), pick(r.O.Y, 7), pick(r.O.Z, 9)}, [3]*big.Rat{pick(r.D.X, 11), pick(r.D.Y, 13), pick(r.D.Z, 15)}}
		n.o[2].Sub(n.o[2], pick(s.At, 17))
		if s.Bent {
			n.a4, n.a6 = pick(s.A4, 19), pick(s.A6, 21)
		}
		l = append(l, n)
	}
	return l
}

// by is curve by the sum of p by q, z's by conic.
func (n numbers) by(p, q [3]*big.Rat) *big.Rat {
	return product(n.curve, total(product(p[0], q[0]), product(p[1], q[1]), product(n.conic, p[2], q[2])))
}

// roots are the root of a, which is not below 0, from below and from above: the same, if it is exact, else very near to one another.
func roots(a *big.Rat) [2]*big.Rat {
	fine := new(big.Int).Lsh(big.NewInt(1), 200)
	square := new(big.Int).Mul(a.Num(), a.Denom())
	square.Mul(square, fine).Mul(square, fine)
	low := new(big.Int).Sqrt(square)
	high := new(big.Int).Set(low)
	if new(big.Int).Mul(low, low).Cmp(square) != 0 {
		high.Add(high, big.NewInt(1))
	}
	by := new(big.Int).Mul(a.Denom(), fine)
	return [2]*big.Rat{new(big.Rat).SetFrac(low, by), new(big.Rat).SetFrac(high, by)}
}

// along is a part of where the ray comes to in t.
func (n numbers) along(k int, t *big.Rat) *big.Rat {
	return total(n.o[k], product(n.d[k], t))
}

// gap is how far the ray is beyond the face in t, from below and from above; false, where there is no face.
func (n numbers) gap(t *big.Rat) (g [2]*big.Rat, ok bool) {
	x, y := n.along(0, t), n.along(1, t)
	r2 := total(product(x, x), product(y, y))
	square := total(rat(1, 1), less(product(n.conic, n.curve, n.curve, r2)))
	if square.Sign() < 0 {
		return g, false
	}
	u := product(r2, rat(1, 1000))
	for k, q := range roots(square) {
		cone := new(big.Rat).Quo(product(n.curve, r2), total(rat(1, 1), q))
		g[k] = total(n.along(2, t), less(total(cone, product(n.a4, u, u), product(n.a6, u, u, u))))
	}
	return g, true
}

// holds tells whether what lies between both, either way round, can lie in a.
func holds(a api.Iv, b [2]*big.Rat) bool {
	lo, hi := b[0], b[1]
	if lo.Cmp(hi) > 0 {
		lo, hi = hi, lo
	}
	return rat(a.Lo, one).Cmp(hi) <= 0 && lo.Cmp(rat(a.Hi, one)) <= 0
}

// checkHeld holds what was told of a box against an exact face and ray in it (W1).
func checkHeld(t *testing.T, got told, n numbers) {
	t.Helper()
	a, b, c := n.by(n.d, n.d), total(n.by(n.o, n.d), less(n.d[2])), total(n.by(n.o, n.o), less(n.o[2]), less(n.o[2]))
	square := total(product(b, b), less(product(a, c)))
	if got.is == api.No && square.Sign() >= 0 || got.is == api.Yes && square.Sign() < 0 {
		t.Errorf("15.1: %+v of %+v, where the root is of %v", got, n, square)
		return
	}
	if got.is != api.Yes {
		return
	}
	if n.bent {
		checkZero(t, got, n)
		return
	}
	var ts [2]*big.Rat
	for k, q := range roots(square) {
		ts[k] = new(big.Rat).Quo(c, total(q, less(b)))
	}
	if !holds(got.t, ts) {
		t.Errorf("W1: t, %+v, is without that of %+v", got.t, n)
	}
	for k, part := range []api.Iv{got.p.X, got.p.Y, got.p.Z} {
		if !holds(part, [2]*big.Rat{n.along(k, ts[0]), n.along(k, ts[1])}) {
			t.Errorf("W1: part %d of %+v is without that of %+v", k, got.p, n)
		}
	}
	place := [3]*big.Rat{n.along(0, ts[0]), n.along(1, ts[0]), n.along(2, ts[0])}
	off := total(n.by(place, place), less(place[2]), less(place[2]))
	if off.Abs(off).Cmp(new(big.Rat).SetFrac64(1, 1<<40)) > 0 {
		t.Errorf("15.1: %+v of %+v is not on the face, but %v off", got, n, off)
	}
}

// checkZero holds that in t an exact ray goes through a Bent face: it is on unlike sides at its ends.
func checkZero(t *testing.T, got told, n numbers) {
	t.Helper()
	start, ok := n.gap(rat(got.t.Lo, one))
	end, fine := n.gap(rat(got.t.Hi, one))
	if !ok || !fine {
		t.Errorf("W1: %+v of %+v, where there is no face", got, n)
		return
	}
	above := start[0].Sign() > 0 && start[1].Sign() > 0 && end[0].Sign() > 0 && end[1].Sign() > 0
	below := start[0].Sign() < 0 && start[1].Sign() < 0 && end[0].Sign() < 0 && end[1].Sign() < 0
	if above || below {
		t.Errorf("W1: t, %+v, has no zero of %+v", got.t, n)
	}
	for k, part := range []api.Iv{got.p.X, got.p.Y, got.p.Z} {
		for _, end := range []int{got.t.Lo, got.t.Hi} {
			if at := n.along(k, rat(end, one)); !holds(part, [2]*big.Rat{at, at}) {
				t.Errorf("W1: part %d of %+v is without that of %+v", k, got.p, n)
			}
		}
	}
}

var axis = at(0, 0, 1)

// ray is one from (x, y, z), along the axis.
func ray(x, y, z int) api.Ray {
	return api.Ray{O: at(x, y, z), D: axis}
}

// from is one from (x, y, z), that way.
func from(x, y, z int, d api.V) api.Ray {
	return api.Ray{O: at(x, y, z), D: d}
}

// aslant is a way of about 1, at which most calls are rounded.
var aslant = box(point(10000), point(-3000), point(64697))

// broad is a ray with parts that are wide, all but one.
var broad = api.Ray{O: box(of(one, one+100), of(-2*one, -2*one+50), of(0, 33)), D: box(point(10000), of(-3000, -2990), of(64690, 64700))}

const quarter = one / 4

// TestExample: the example of chapter 15.
func TestExample(t *testing.T) {
	checkRows(t, []row{{"a plane at 10, from 0, along the axis", face(whole(0), whole(1), whole(10)), ray(0, 0, 0), yes(whole(10), whole(0), whole(0), whole(0))}})
}

// TestPlanes: with places from the vertex on; where it lies behind, too; a ray that goes along one, or the other way, is nothing that can be said.
func TestPlanes(t *testing.T) {
	plane := face(whole(0), whole(1), whole(10))
	spread := api.Ray{O: box(whole(0), whole(0), wholes(0, 1)), D: box(wholes(-1, 1), whole(0), wholes(1, 2))}
	checkRows(t, []row{
		{"beside the axis", plane, ray(3, -2, 4), yes(whole(6), whole(3), whole(-2), whole(0))}, {"aslant", plane, from(1, 2, 0, at(3, -1, 2)), yes(whole(5), whole(16), whole(-3), whole(0))},
		{"from behind", plane, ray(0, 0, 12), yes(whole(-2), whole(0), whole(0), whole(0))}, {"from it", plane, from(5, 6, 10, at(1, 1, 1)), yes(whole(0), whole(5), whole(6), whole(0))},
		{"a long way", plane, from(1, 0, 0, at(0, 4, 5)), yes(whole(2), whole(1), whole(8), whole(0))}, {"a short way", plane, from(0, 0, 9, box(whole(0), whole(0), point(one/8))), yes(whole(8), whole(0), whole(0), whole(0))},
		{"along it", plane, from(0, 0, 0, at(1, 0, 0)), unsure}, {"in it", plane, from(0, 0, 10, at(1, 0, 0)), unsure}, {"the other way", plane, from(0, 0, 0, at(0, 0, -1)), unsure}, {"the other way, towards it", plane, from(0, 0, 20, at(0, 0, -1)), unsure}, {"no way", plane, from(0, 0, 0, at(0, 0, 0)), unsure},
		{"wide in z", plane, api.Ray{O: box(whole(0), whole(0), wholes(0, 1)), D: axis}, yes(wholes(9, 10), whole(0), whole(0), wholes(-1, 1))}, {"a wide vertex", face(whole(0), whole(1), wholes(9, 11)), spread, yes(wholes(4, 11), wholes(-11, 11), whole(0), wholes(-7, 14))},
		{"perhaps along it", plane, from(0, 0, 0, box(whole(0), whole(0), of(0, one))), unsure}, {"perhaps the other way", plane, from(0, 0, 0, box(whole(0), whole(0), of(-1, one))), unsure}, {"surely not along it", plane, from(0, 0, 0, box(whole(0), whole(0), of(256, one))), yes(wholes(10, 2560), whole(0), whole(0), of(-652800, 167116800))},
	})
	for _, conic := range []api.Iv{whole(0), whole(2), whole(-1), point(-7*one - 3), wholes(-5, 5)} {
		checkRows(t, []row{{"a plane, its Conic another one", face(whole(0), conic, whole(10)), from(1, 2, 0, at(3, -1, 2)), yes(whole(5), whole(16), whole(-3), whole(0))}})
	}
}

// TestBalls: of either sign, from the vertex to where they are 4 deep, and past that.
func TestBalls(t *testing.T) {
	ball, hollow := face(point(quarter), whole(1), whole(10)), face(point(-quarter), whole(1), whole(10))
	out := func(x int) api.Ray { return api.Ray{O: box(point(x), whole(0), whole(0)), D: axis} }
	checkRows(t, []row{
		{"a ball", ball, out(0), yes(whole(10), whole(0), whole(0), whole(0))}, {"a ball", ball, out(one), yes(of(663684, 663687), whole(1), whole(0), of(8324, 8327))}, {"a ball", ball, out(3 * one), yes(of(744112, 744115), whole(3), whole(0), of(88752, 88755))},
		{"a ball, a step from its side", ball, out(4*one - 1), yes(of(916480, 917504), point(262143), whole(0), of(261120, 262144))}, {"a ball's side", ball, out(4 * one), yes(whole(14), whole(4), whole(0), whole(4))},
		{"a step past its side", ball, out(4*one + 1), unsure}, {"two steps past it", ball, out(4*one + 2), no}, {"past it", ball, out(5 * one), no}, {"far past it", ball, out(100 * one), no},
		{"a hollow", hollow, out(0), yes(whole(10), whole(0), whole(0), whole(0))}, {"a hollow", hollow, out(one), yes(of(647018, 647037), whole(1), whole(0), of(-8342, -8323))}, {"a hollow", hollow, out(3 * one), yes(of(566597, 566609), whole(3), whole(0), of(-88763, -88751))},
		{"a hollow, a step from its side", hollow, out(4*one - 1), yes(of(393214, 394243), point(262143), whole(0), of(-262146, -261117))}, {"a hollow's side", hollow, out(4 * one), yes(whole(6), whole(4), whole(0), whole(-4))},
		{"a step past a hollow's side", hollow, out(4*one + 1), unsure}, {"two steps past it", hollow, out(4*one + 2), no}, {"past it", hollow, out(5 * one), no},
		{"perhaps past it", ball, api.Ray{O: box(wholes(3, 5), whole(0), whole(0)), D: axis}, unsure}, {"surely past it", ball, api.Ray{O: box(wholes(5, 6), wholes(-1, 1), whole(0)), D: axis}, no}, {"perhaps a ball, perhaps a hollow", face(of(-quarter, quarter), whole(1), whole(10)), out(0), unsure}, {"so from its vertex", face(of(-quarter, quarter), whole(1), whole(10)), ray(0, 0, 10), yes(whole(0), whole(0), whole(0), whole(0))},
		{"a hollow, aslant", hollow, from(1, -2, 0, aslant), yes(of(548633, 548791), of(149250, 149275), of(-156194, -156186), of(-113751, -113594))}, {"a ball, aslant past it", ball, from(1, -2, 0, aslant), no}, {"a hollow, wide", hollow, broad, yes(of(547048, 550456), of(149008, 149629), of(-156270, -155980), of(-115374, -111892))},
		{"a ball, aslant", ball, from(1, -2, 0, box(point(5000), point(-3000), point(65275))), yes(of(759292, 759447), of(123465, 123478), of(-165837, -165829), of(100908, 101063))},
		{"the other way, a ball's far side", ball, from(1, -2, 9, box(point(1000), point(-3000), point(-65400))), yes(of(-562064, -561979), of(56959, 56961), of(-105347, -105342), of(495276, 495362))},
	})
}

// TestConics: below, at and above 0, of either sign of Curve.
func TestConics(t *testing.T) {
	conic := func(k int) api.Surf { return face(point(quarter), point(k), whole(10)) }
	hollow := func(k int) api.Surf { return face(point(-quarter), point(k), whole(10)) }
	steep := box(point(50000), point(-30000), point(30000))
	checkRows(t, []row{
		{"a parabola", conic(0), ray(4, 0, 0), yes(whole(12), whole(4), whole(0), whole(2))}, {"a parabola, far out", conic(0), ray(8, 0, 0), yes(whole(18), whole(8), whole(0), whole(8))}, {"a parabola, as far out as there are squares", conic(0), ray(128, 0, 10), yes(whole(2048), whole(128), whole(0), whole(2048))},
		{"a parabola, along its side", conic(0), from(2, 0, 10, at(1, 0, 1)), yes(whole(2), whole(4), whole(0), whole(2))}, {"a parabola, from within", conic(0), from(0, 0, 11, at(4, 0, 1)), yes(point(-32768), whole(-2), whole(0), point(32768))}, {"a parabola, from further within", conic(0), from(0, 0, 13, at(4, 0, 1)), yes(whole(-1), whole(-4), whole(0), whole(2))}, {"a parabola, from beside it", conic(0), from(0, 0, 8, at(4, 0, 1)), no},
		{"a parabola, aslant", conic(0), from(1, -2, 0, aslant), yes(of(783881, 783976), of(185146, 185162), of(-166960, -166955), of(118485, 118580))}, {"a parabola, wide", conic(0), broad, yes(of(783687, 784166), of(185117, 185291), of(-166969, -166776), of(118210, 118836))}, {"a hollow parabola, aslant", hollow(0), from(1, -2, 0, aslant), yes(of(571058, 571099), of(152672, 152679), of(-157215, -157212), of(-91613, -91572))},
		{"Conic of -1", conic(-one), ray(3, 0, 0), yes(whole(11), whole(3), whole(0), whole(1))}, {"Conic of -1", conic(-one), ray(5, 0, 0), yes(of(812824, 812949), whole(5), whole(0), of(157464, 157589))}, {"Conic of -1, hollow", hollow(-one), ray(3, 0, 0), yes(whole(9), whole(3), whole(0), whole(-1))}, {"Conic of -1, hollow", hollow(-one), ray(5, 0, 0), yes(of(497868, 497871), whole(5), whole(0), of(-157492, -157489))},
		{"Conic of -1, aslant", conic(-one), from(1, -2, 0, aslant), yes(of(762528, 762746), of(181888, 181922), of(-165988, -165977), of(97406, 97622))}, {"Conic of -1, wide", conic(-one), broad, yes(of(759162, 766153), of(181374, 182542), of(-166144, -165657), of(94002, 101053))}, {"Conic of -1, steep", hollow(-one), from(1, -2, 9, steep), yes(of(31898, 31900), of(89872, 89874), of(-145675, -145673), of(-50935, -50933))}, {"Conic of -1, steep, past it", conic(-one), from(1, -2, 9, steep), no},
		{"Conic of -3", conic(-3 * one), ray(3, 0, 0), yes(of(711227, 711231), whole(3), whole(0), of(55867, 55871))}, {"Conic of -3, aslant", conic(-3 * one), from(1, -2, 0, aslant), yes(of(742932, 743022), of(178898, 178913), of(-165085, -165080), of(78060, 78150))}, {"Conic of -3, hollow", hollow(-3 * one), from(1, -2, 0, aslant), yes(of(594983, 595034), of(156323, 156331), of(-158311, -158308), of(-67995, -67943))}, {"Conic of -1/2, aslant", conic(-one / 2), from(1, -2, 0, aslant), yes(of(771239, 771414), of(183217, 183245), of(-166385, -166376), of(106005, 106179))},
		{"Conic of 1/2, its side", conic(one / 2), ray(4, 4, 0), yes(whole(18), whole(4), whole(4), whole(8))}, {"Conic of 1/2, past its side", conic(one / 2), ray(4, 5, 0), no}, {"Conic of 1/2, aslant", conic(one / 2), from(1, -2, 0, aslant), yes(of(806022, 806185), of(188525, 188551), of(-167977, -167968), of(140343, 140505))},
		{"Conic of 2", conic(2 * one), ray(1, 0, 0), yes(of(663824, 663826), whole(1), whole(0), of(8464, 8466))}, {"Conic of 2, its side", conic(2 * one), ray(2, 2, 10), yes(whole(2), whole(2), whole(2), whole(2))}, {"Conic of 2, past its side", conic(2 * one), ray(3, 0, 0), no}, {"Conic of 2, hollow", hollow(2 * one), ray(2, 0, 0), yes(of(616967, 616971), whole(2), whole(0), of(-38393, -38389))}, {"Conic of 2, steep", hollow(2 * one), from(1, -2, 9, steep), yes(of(12109, 12111), of(74774, 74776), of(-136616, -136615), of(-59993, -59992))},
	})
}

// TestFromVertex: all places are from the vertex on: it is taken from O's z first, and from nothing else.
func TestFromVertex(t *testing.T) {
	dish, met := face(point(quarter), whole(0), whole(0)), yes(whole(3), whole(4), whole(0), whole(2))
	for _, n := range []int{0, 1, 10, -10, 128, 129, 1000, -1000, 8192, -8192, 16384, -16383} {
		dish.At = whole(n)
		checkRows(t, []row{{"moved along the axis", dish, ray(4, 0, n-1), met}})
	}
	wide := dish
	dish.At, wide.At = whole(-16384), wholes(-1, 1)
	checkRows(t, []row{
		{"at the bounds", dish, ray(4, 0, -16384), yes(whole(2), whole(4), whole(0), whole(2))}, {"at the other ones", face(point(-quarter), whole(0), whole(-16384)), ray(4, 0, -16384), yes(whole(-2), whole(4), whole(0), whole(-2))},
		{"a wide vertex", wide, ray(4, 0, 0), yes(wholes(1, 3), whole(4), whole(0), wholes(0, 4))}, {"a wide vertex, another place", wide, ray(4, 0, 1), yes(wholes(0, 2), whole(4), whole(0), wholes(0, 4))},
		{"further than a number may be", face(whole(0), whole(0), whole(-1)), ray(0, 0, 16384), unsure}, {"so the other way", face(whole(0), whole(0), whole(16384)), ray(0, 0, -1), unsure},
	})
}

// TestNothingSaid: numbers on the way that are none, or are not sure.
func TestNothingSaid(t *testing.T) {
	plane, bare := face(whole(0), whole(1), whole(10)), face(whole(0), whole(0), whole(10))
	narrow := face(point(64), whole(-1), whole(0))
	past := point(128*one + 1)
	checkRows(t, []row{
		{"a's squares, at the bounds", bare, from(0, 0, 0, at(128, 0, 128)), yes(point(5120), whole(10), whole(0), whole(0))}, {"a's squares, past them", bare, from(0, 0, 0, box(past, whole(0), whole(128))), unsure}, {"a's sum, past them", plane, from(0, 0, 0, at(128, 0, 128)), unsure},
		{"c's squares, at the bounds", plane, ray(128, 0, 10), yes(whole(0), whole(128), whole(0), whole(0))}, {"c's squares, past them", plane, api.Ray{O: box(past, whole(0), whole(10)), D: axis}, unsure}, {"c's sum, past them", plane, ray(128, 0, 0), unsure}, {"z's square, at the bounds", plane, ray(0, 0, 138), yes(whole(-128), whole(0), whole(0), whole(0))}, {"z's square, past them", plane, ray(0, 0, 139), unsure},
		{"b's square, past them", bare, from(0, 0, 0, box(whole(0), whole(0), past)), unsure},
		{"a, past them, though the last one would lead back", face(point(512), whole(-1), whole(0)), from(0, 0, -1, at(92, 92, 92)), unsure}, {"c, past them, though the last one would lead back", face(point(512), whole(-1), whole(0)), ray(92, 92, 92), unsure},
		{"b, within them, though in another order not", narrow, from(100, 79, 100, at(100, -79, -100)), yes(of(-2494330, -2494322), of(-242879400, -242878600), of(202228782, 202229414), of(255985800, 255986600))}, {"b, within them, though in a third order not", narrow, from(79, 100, 100, at(-79, 100, -100)), yes(of(-2494330, -2494322), of(202228782, 202229414), of(-242879400, -242878600), of(255985800, 255986600))},
		{"z by 2, wide, past them", bare, api.Ray{O: box(whole(0), whole(0), of(-most, 0)), D: axis}, unsure}, {"all that there is", face(of(-most, most), of(-most, most), of(-most, most)), api.Ray{O: box(of(-most, most), of(-most, most), of(-most, most)), D: box(of(-most, most), of(-most, most), of(-most, most))}, unsure},
	})
}

// TestNoPlace: a place with a part that is None is none, and its t is none then; of a Bent face too.
func TestNoPlace(t *testing.T) {
	plane, bentPlane := face(whole(0), whole(0), whole(0)), bent(whole(0), whole(0), whole(0), whole(0), whole(0))
	both := func(lo, hi int) api.Ray {
		return api.Ray{O: box(whole(0), whole(0), wholes(lo, hi)), D: box(whole(0), whole(0), wholes(1, 128))}
	}
	checkRows(t, []row{
		{"x, at the bounds", plane, from(0, 0, -128, at(128, 0, 1)), yes(whole(128), whole(16384), whole(0), whole(0))}, {"x, past them", plane, api.Ray{O: box(point(1), whole(0), whole(-128)), D: at(128, 0, 1)}, unsure}, {"x, below them", plane, api.Ray{O: box(point(-1), whole(0), whole(-128)), D: at(-128, 0, 1)}, unsure}, {"x, wide, past them", plane, api.Ray{O: box(of(-1, 0), whole(0), whole(-128)), D: at(-128, 0, 1)}, unsure},
		{"z, at the bounds", plane, both(-127, 127), yes(wholes(-127, 127), whole(0), whole(0), wholes(-16383, 16383))}, {"z, past them", plane, both(-128, 128), unsure},
		{"z, at the bounds, Bent", bentPlane, both(-127, 127), yes(wholes(-127, 127), whole(0), whole(0), wholes(-16383, 16383))}, {"z, past them, Bent", bentPlane, both(-128, 128), unsure},
	})
	// That the place alone is none is of what is written.
	s, r := bentPlane, both(-128, 128)
	first, is := quad.Near(whole(0), iv.Neg(r.D.Z), iv.Neg(iv.Times(r.O.Z, 2)))
	f := func(t api.Iv) (value, slope api.Iv) { return vec.Along(r, t).Z, r.D.Z }
	got, sure := newton.Solve(f, iv.Of(first.Lo-one, first.Hi+one), 20)
	if is != api.Yes || sure != api.Yes || vec.Right(vec.Along(r, got)) {
		t.Errorf("15.1: of %+v and %+v t is %+v, %d, and the place %+v", s, r, got, sure, vec.Along(r, got))
	}
}

// TestBent: terms of either sign, of planes, balls and other conics; those of 0 are asked of newton too.
func TestBent(t *testing.T) {
	dish := bent(point(quarter), whole(0), whole(10), whole(200), whole(-5000))
	with := func(curve, conic, a4, a6 int) api.Surf {
		return bent(point(curve), whole(conic), whole(10), whole(a4), whole(a6))
	}
	slant := from(3, -1, 0, aslant)
	checkRows(t, []row{
		{"at the vertex", dish, ray(0, 0, 0), yes(whole(10), whole(0), whole(0), whole(0))}, {"both terms", dish, ray(4, 0, 0), yes(of(788442, 788448), whole(4), whole(0), of(133082, 133088))}, {"both terms, far out", dish, ray(8, 0, 0), yes(of(1147410, 1147447), whole(8), whole(0), of(492050, 492087))},
		{"both terms, aslant", dish, from(1, -2, 0, aslant), yes(of(786016, 786027), of(185472, 185475), of(-167054, -167052), of(120593, 120605))}, {"both terms, wide", dish, broad, yes(of(785801, 786216), of(185439, 185604), of(-167063, -166873), of(120297, 120860))},
		{"A4, Conic of -1", with(1311, -1, 300, 0), slant, yes(of(690298, 690319), of(301939, 301943), of(-97137, -97135), of(26100, 26122))}, {"A4, a parabola", with(1311, 0, 300, 0), slant, yes(of(690335, 690354), of(301944, 301948), of(-97138, -97137), of(26137, 26157))}, {"A4, a ball", with(1311, 1, 300, 0), slant, yes(of(690372, 690393), of(301950, 301954), of(-97140, -97138), of(26173, 26195))},
		{"A4, Conic of -1, hollow", with(-1311, -1, 300, 0), slant, yes(of(659073, 659094), of(297174, 297178), of(-95707, -95705), of(-4725, -4703))}, {"A4, a hollow", with(-1311, 1, 300, 0), slant, yes(of(659006, 659026), of(297164, 297168), of(-95704, -95702), of(-4791, -4770))},
		{"terms of 0", with(quarter, 1, 0, 0), ray(2, 0, 0), yes(of(690480, 690481), whole(2), whole(0), of(35120, 35121))}, {"terms of 0, aslant", with(quarter, 1, 0, 0), from(1, -2, 0, box(point(5000), point(-3000), point(65275))), yes(of(759361, 759368), of(123470, 123472), of(-165834, -165832), of(100976, 100984))}, {"terms of 0, far out", with(quarter, 0, 0, 0), ray(128, 0, 10), yes(whole(2048), whole(128), whole(0), whole(2048))},
		{"terms of 0, from within", with(quarter, 0, 0, 0), from(0, 0, 13, at(4, 0, 1)), yes(whole(-1), whole(-4), whole(0), whole(2))}, {"terms of 0, two zeros near by", with(quarter, 0, 0, 0), from(0, 0, 11, at(4, 0, 1)), unsure}, {"terms of 0, along its side", with(quarter, 0, 0, 0), from(2, 0, 10, at(1, 0, 1)), unsure}, {"terms of 0, at a ball's side", with(quarter, 1, 0, 0), ray(4, 0, 0), unsure},
	})
}

// TestNotAsked: newton is asked only where the face without its terms is met, whatever the terms are.
func TestNotAsked(t *testing.T) {
	for _, a := range []api.Iv{whole(0), point(5), whole(-3), wholes(-100, 100), whole(16384), none, of(1, 0), point(most + 1)} {
		for _, b := range []api.Iv{whole(0), whole(9), none, a} {
			ball, plane := bent(point(quarter), whole(1), whole(10), a, b), bent(whole(0), whole(1), whole(10), a, b)
			checkRows(t, []row{
				{"past a ball's side", ball, ray(0, 5, 0), no}, {"a step past it", ball, api.Ray{O: box(point(4*one+1), whole(0), whole(0)), D: axis}, unsure}, {"past it, wide", ball, api.Ray{O: box(wholes(5, 6), wholes(-1, 1), whole(0)), D: axis}, no},
				{"along a plane", plane, from(0, 0, 0, at(1, 0, 0)), unsure}, {"the other way", plane, from(0, 0, 20, at(0, 0, -1)), unsure}, {"wide, the other way", plane, from(0, 0, 0, box(whole(0), whole(0), of(-1, one))), unsure},
			})
		}
	}
	checkRows(t, []row{{"a plane that is met, A4 of None", bent(whole(0), whole(1), whole(10), none, whole(0)), ray(0, 0, 0), unsure}, {"a plane that is met, A6 of None", bent(whole(0), whole(1), whole(10), whole(0), none), ray(0, 0, 0), unsure}})
}

// TestSpan: it is looked for up to One from where the face without terms is met, both ways, and not past that; where that leaves the bounds nothing is said.
func TestSpan(t *testing.T) {
	deep := func(a4 int) api.Surf { return bent(whole(0), whole(1), whole(10), point(a4), whole(0)) }
	up := func(z, w int) api.Ray {
		return api.Ray{O: box(whole(0), whole(0), point(z)), D: box(whole(0), whole(0), point(w))}
	}
	plane, flat := face(whole(0), whole(1), whole(0)), bent(whole(0), whole(1), whole(0), whole(0), whole(0))
	edge := 128*one - 512
	checkRows(t, []row{
		{"half as deep", deep(31250), ray(32, 0, 0), yes(of(688126, 688130), whole(32), whole(0), of(32766, 32770))}, {"half as high", deep(-31250), ray(32, 0, 0), yes(of(622590, 622594), whole(32), whole(0), of(-32770, -32766))},
		{"nearly as deep", deep(62496), ray(32, 0, 0), yes(of(720890, 720894), whole(32), whole(0), of(65530, 65534))}, {"a step nearer", deep(62497), ray(32, 0, 0), yes(of(720891, 720895), whole(32), whole(0), of(65531, 65535))}, {"as deep", deep(62498), ray(32, 0, 0), unsure}, {"as deep as One", deep(62500), ray(32, 0, 0), unsure},
		{"nearly as high", deep(-62496), ray(32, 0, 0), yes(of(589826, 589830), whole(32), whole(0), of(-65534, -65530))}, {"a step nearer", deep(-62497), ray(32, 0, 0), yes(of(589825, 589829), whole(32), whole(0), of(-65535, -65531))}, {"as high", deep(-62498), ray(32, 0, 0), unsure}, {"as high as One", deep(-62500), ray(32, 0, 0), unsure},
		{"One from the bounds", flat, up(-edge, 512), yes(whole(16383), whole(0), whole(0), whole(0))}, {"nearer to them", flat, up(-edge-1, 512), unsure}, {"at them", flat, up(-128*one, 512), unsure}, {"nearer to them, not Bent", plane, up(-edge-1, 512), yes(point(1073676416), whole(0), whole(0), whole(0))}, {"at them, not Bent", plane, up(-128*one, 512), yes(whole(16384), whole(0), whole(0), whole(0))},
		{"One from the lower bounds", flat, up(edge, 512), yes(whole(-16383), whole(0), whole(0), whole(0))}, {"nearer to them", flat, up(edge+1, 512), unsure}, {"at them", flat, up(128*one, 512), unsure},
	})
}

// TestNeverSure: that newton finds surely no zero near by tells only that: it is Unsure.
func TestNeverSure(t *testing.T) {
	l := []row{
		{"beyond, deeper", bent(whole(0), whole(1), whole(10), whole(3), whole(0)), ray(32, 0, 0), unsure}, {"beyond, higher", bent(whole(0), whole(1), whole(10), whole(-3), whole(0)), ray(32, 0, 0), unsure}, {"beyond, by A6", bent(whole(0), whole(1), whole(10), whole(0), whole(3)), ray(32, 0, 0), unsure},
		{"beyond, aslant", bent(point(1311), whole(1), whole(20), whole(8000), point(-one/5)), from(3, -1, 0, box(point(2000), point(-700), point(65400))), unsure},
	}
	checkRows(t, l)
	w := written()
	w.never = api.No
	for _, r := range l {
		if got := w.said(r.s, r.r); got != no {
			t.Errorf("15.1: %s: newton tells not No: %+v", r.what, got)
		}
	}
}

// sum is Curve by the sum of x by x, y by y, and Conic by z by z, of p and q.
type sum func(s api.Surf, p, q api.V) api.Iv

// mean is a sum as the chapter writes it, by is Mul, or Sqr of the first.
func mean(by func(a, b api.Iv) api.Iv) sum {
	return func(s api.Surf, p, q api.V) api.Iv {
		return iv.Mul(s.Curve, iv.Add(iv.Add(by(p.X, q.X), by(p.Y, q.Y)), iv.Mul(s.Conic, by(p.Z, q.Z))))
	}
}

func square(a, _ api.Iv) api.Iv {
	return iv.Sqr(a)
}

// ways are how the parts of the answer are reckoned: o and d are the parts of the ray, o's from the vertex on.
type ways struct {
	from    func(o api.V, at api.Iv) api.V // o
	a, b, c func(s api.Surf, o, d api.V) api.Iv
	span    func(t api.Iv) api.Iv                 // where newton looks
	rounds  int                                   // how often
	far     func(p api.V) api.Iv                  // what sag is asked at
	value   func(p api.V, z api.Iv) api.Iv        // what is 0 where a Bent face is met
	slope   func(p, d api.V, steep api.Iv) api.Iv // that one's slope
	never   api.Tri                               // what newton's No is
	along   func(r api.Ray, at, t api.Iv) api.V   // where the ray comes to
}

// written are the ways as the chapter writes them.
func written() ways {
	squares, products := mean(square), mean(iv.Mul)
	return ways{
		from:   func(o api.V, at api.Iv) api.V { return box(o.X, o.Y, iv.Sub(o.Z, at)) },
		a:      func(s api.Surf, o, d api.V) api.Iv { return squares(s, d, d) },
		b:      func(s api.Surf, o, d api.V) api.Iv { return iv.Sub(products(s, o, d), d.Z) },
		c:      func(s api.Surf, o, d api.V) api.Iv { return iv.Sub(squares(s, o, o), iv.Times(o.Z, 2)) },
		span:   func(t api.Iv) api.Iv { return iv.Of(t.Lo-one, t.Hi+one) },
		rounds: 20,
		far:    func(p api.V) api.Iv { return iv.Add(iv.Sqr(p.X), iv.Sqr(p.Y)) },
		value:  func(p api.V, z api.Iv) api.Iv { return iv.Sub(p.Z, z) },
		slope: func(p, d api.V, steep api.Iv) api.Iv {
			return iv.Sub(d.Z, iv.Mul(steep, iv.Times(iv.Add(iv.Mul(p.X, d.X), iv.Mul(p.Y, d.Y)), 2)))
		},
		never: api.Unsure,
		along: func(r api.Ray, at, t api.Iv) api.V {
			return vec.Along(api.Ray{O: box(r.O.X, r.O.Y, iv.Sub(r.O.Z, at)), D: r.D}, t)
		},
	}
}

// said is what Of ought to answer, by the ways.
func (w ways) said(s api.Surf, r api.Ray) told {
	o, d := w.from(r.O, s.At), r.D
	t, is := quad.Near(w.a(s, o, d), w.b(s, o, d), w.c(s, o, d))
	if s.Bent && is == api.Yes {
		f := func(t api.Iv) (value, slope api.Iv) {
			p := w.along(r, s.At, t)
			z, steep := sag.Of(s, w.far(p))
			return w.value(p, z), w.slope(p, d, steep)
		}
		t, is = newton.Solve(f, w.span(t), w.rounds)
		if is == api.No {
			is = w.never
		}
	}
	if is == api.No {
		return no
	}
	p := w.along(r, s.At, t)
	if is != api.Yes || p.X.No || p.Y.No || p.Z.No {
		return unsure
	}
	return told{t, p, api.Yes}
}

// sums are ways to reckon a sum that differ from the chapter's.
func sums(by func(a, b api.Iv) api.Iv) map[string]sum {
	mul, add := iv.Mul, iv.Add
	return map[string]sum{
		"Curve by each": func(s api.Surf, p, q api.V) api.Iv {
			return add(add(mul(s.Curve, by(p.X, q.X)), mul(s.Curve, by(p.Y, q.Y))), mul(s.Curve, mul(s.Conic, by(p.Z, q.Z))))
		},
		"Curve by x and y, and by z": func(s api.Surf, p, q api.V) api.Iv {
			return add(mul(s.Curve, add(by(p.X, q.X), by(p.Y, q.Y))), mul(s.Curve, mul(s.Conic, by(p.Z, q.Z))))
		},
		"Curve by Conic": func(s api.Surf, p, q api.V) api.Iv {
			return add(mul(s.Curve, add(by(p.X, q.X), by(p.Y, q.Y))), mul(mul(s.Curve, s.Conic), by(p.Z, q.Z)))
		},
		"Conic by Curve's product": func(s api.Surf, p, q api.V) api.Iv {
			return add(mul(s.Curve, add(by(p.X, q.X), by(p.Y, q.Y))), mul(s.Conic, mul(s.Curve, by(p.Z, q.Z))))
		},
		"Conic by z, and by z": func(s api.Surf, p, q api.V) api.Iv {
			return mul(s.Curve, add(add(by(p.X, q.X), by(p.Y, q.Y)), mul(mul(s.Conic, p.Z), q.Z)))
		},
		"z by Conic by z": func(s api.Surf, p, q api.V) api.Iv {
			return mul(s.Curve, add(add(by(p.X, q.X), by(p.Y, q.Y)), mul(p.Z, mul(s.Conic, q.Z))))
		},
		"Curve by p first": func(s api.Surf, p, q api.V) api.Iv {
			return add(add(mul(mul(s.Curve, p.X), q.X), mul(mul(s.Curve, p.Y), q.Y)), mul(s.Conic, mul(mul(s.Curve, p.Z), q.Z)))
		},
		"Curve by q first": func(s api.Surf, p, q api.V) api.Iv {
			return add(add(mul(p.X, mul(s.Curve, q.X)), mul(p.Y, mul(s.Curve, q.Y))), mul(s.Conic, mul(p.Z, mul(s.Curve, q.Z))))
		},
		"z ahead of y": func(s api.Surf, p, q api.V) api.Iv {
			return mul(s.Curve, add(add(by(p.X, q.X), mul(s.Conic, by(p.Z, q.Z))), by(p.Y, q.Y)))
		},
		"y and z first": func(s api.Surf, p, q api.V) api.Iv {
			return mul(s.Curve, add(by(p.X, q.X), add(by(p.Y, q.Y), mul(s.Conic, by(p.Z, q.Z)))))
		},
		"Conic less 1": func(s api.Surf, p, q api.V) api.Iv {
			z := by(p.Z, q.Z)
			return mul(s.Curve, add(add(add(by(p.X, q.X), by(p.Y, q.Y)), z), mul(iv.Sub(s.Conic, whole(1)), z)))
		},
	}
}

// lone are sums of squares with a product for one of them.
func lone() map[string]sum {
	sqr, mul, add := iv.Sqr, iv.Mul, iv.Add
	return map[string]sum{
		"a product for x's square": func(s api.Surf, p, _ api.V) api.Iv {
			return mul(s.Curve, add(add(mul(p.X, p.X), sqr(p.Y)), mul(s.Conic, sqr(p.Z))))
		},
		"a product for y's square": func(s api.Surf, p, _ api.V) api.Iv {
			return mul(s.Curve, add(add(sqr(p.X), mul(p.Y, p.Y)), mul(s.Conic, sqr(p.Z))))
		},
		"a product for z's square": func(s api.Surf, p, _ api.V) api.Iv {
			return mul(s.Curve, add(add(sqr(p.X), sqr(p.Y)), mul(s.Conic, mul(p.Z, p.Z))))
		},
	}
}

// slopes are ways to reckon the slope that differ from the chapter's.
func slopes() map[string]func(p, d api.V, steep api.Iv) api.Iv {
	mul, add, sub, times := iv.Mul, iv.Add, iv.Sub, iv.Times
	return map[string]func(p, d api.V, steep api.Iv) api.Iv{
		"twice the product": func(p, d api.V, steep api.Iv) api.Iv {
			return sub(d.Z, times(mul(steep, add(mul(p.X, d.X), mul(p.Y, d.Y))), 2))
		},
		"each of both": func(p, d api.V, steep api.Iv) api.Iv {
			return sub(d.Z, add(mul(steep, times(mul(p.X, d.X), 2)), mul(steep, times(mul(p.Y, d.Y), 2))))
		},
		"one taken, then the other": func(p, d api.V, steep api.Iv) api.Iv {
			return sub(sub(d.Z, mul(steep, times(mul(p.X, d.X), 2))), mul(steep, times(mul(p.Y, d.Y), 2)))
		},
		"the face's slope by the place first": func(p, d api.V, steep api.Iv) api.Iv {
			return sub(d.Z, times(add(mul(mul(steep, p.X), d.X), mul(mul(steep, p.Y), d.Y)), 2))
		},
		"the face's slope by the way first": func(p, d api.V, steep api.Iv) api.Iv {
			return sub(d.Z, times(add(mul(p.X, mul(steep, d.X)), mul(p.Y, mul(steep, d.Y))), 2))
		},
		"each doubled": func(p, d api.V, steep api.Iv) api.Iv {
			return sub(d.Z, mul(steep, add(mul(times(p.X, 2), d.X), mul(times(p.Y, 2), d.Y))))
		},
	}
}

// otherwise are ways that differ in one part from those of the chapter, in no sum that is exact.
func otherwise() map[string]ways {
	m := map[string]ways{}
	add := func(name string, turn func(w *ways)) {
		w := written()
		turn(&w)
		m[name] = w
	}
	more, less := sums(square), lone()
	for name, f := range more {
		less[name] = f
	}
	less["products for squares"] = mean(iv.Mul)
	for name, f := range less {
		add("a: "+name, func(w *ways) { w.a = func(s api.Surf, o, d api.V) api.Iv { return f(s, d, d) } })
		add("c: "+name, func(w *ways) {
			w.c = func(s api.Surf, o, d api.V) api.Iv { return iv.Sub(f(s, o, o), iv.Times(o.Z, 2)) }
		})
	}
	for name, f := range sums(iv.Mul) {
		add("b: "+name, func(w *ways) { w.b = func(s api.Surf, o, d api.V) api.Iv { return iv.Sub(f(s, o, d), d.Z) } })
	}
	add("b: w by one factor", func(w *ways) {
		w.b = func(s api.Surf, o, d api.V) api.Iv {
			return iv.Add(iv.Mul(s.Curve, iv.Add(iv.Mul(o.X, d.X), iv.Mul(o.Y, d.Y))), iv.Mul(d.Z, iv.Sub(iv.Mul(iv.Mul(s.Curve, s.Conic), o.Z), whole(1))))
		}
	})
	add("c: z by one factor", func(w *ways) {
		w.c = func(s api.Surf, o, d api.V) api.Iv {
			return iv.Add(iv.Mul(s.Curve, iv.Add(iv.Sqr(o.X), iv.Sqr(o.Y))), iv.Mul(o.Z, iv.Sub(iv.Mul(iv.Mul(s.Curve, s.Conic), o.Z), whole(2))))
		}
	})
	for name, f := range slopes() {
		add("slope: "+name, func(w *ways) { w.slope = f })
	}
	add("sag at products", func(w *ways) {
		w.far = func(p api.V) api.Iv { return iv.Add(iv.Mul(p.X, p.X), iv.Mul(p.Y, p.Y)) }
	})
	add("the vertex taken last", func(w *ways) {
		w.along = func(r api.Ray, at, t api.Iv) api.V {
			p := vec.Along(r, t)
			return box(p.X, p.Y, iv.Sub(p.Z, at))
		}
	})
	add("the vertex taken from the way", func(w *ways) {
		w.along = func(r api.Ray, at, t api.Iv) api.V {
			p := vec.Scale(r.D, t)
			return vec.Add(r.O, box(p.X, p.Y, iv.Sub(p.Z, at)))
		}
	})
	for _, n := range []int{0, 1, 2, 3, 4, 5, 10, 18, 19, 21, 22, 30, 40} {
		add("rounds: "+string(rune('0'+n/10))+string(rune('0'+n%10)), func(w *ways) { w.rounds = n })
	}
	for name, f := range map[string]func(t api.Iv) api.Iv{
		"t itself":          func(t api.Iv) api.Iv { return t },
		"about the middle":  func(t api.Iv) api.Iv { return iv.Of(iv.Mid(t)-one, iv.Mid(t)+one) },
		"ahead alone":       func(t api.Iv) api.Iv { return iv.Of(t.Lo, t.Hi+one) },
		"behind alone":      func(t api.Iv) api.Iv { return iv.Of(t.Lo-one, t.Hi) },
		"twice as far":      func(t api.Iv) api.Iv { return iv.Of(t.Lo-2*one, t.Hi+2*one) },
		"a step less":       func(t api.Iv) api.Iv { return iv.Of(t.Lo-one+1, t.Hi+one-1) },
		"a step more":       func(t api.Iv) api.Iv { return iv.Of(t.Lo-one-1, t.Hi+one+1) },
		"within the bounds": func(t api.Iv) api.Iv { return iv.Of(max(t.Lo-one, -most), min(t.Hi+one, most)) },
	} {
		add("span: "+name, func(w *ways) { w.span = f })
	}
	add("newton's No", func(w *ways) { w.never = api.No })
	return m
}

// wrong are intervals that are not right: No, an end that is not In, Lo above Hi.
func wrong() []api.Iv {
	l := []api.Iv{
		none, {Lo: 1, Hi: 2, No: true}, {Lo: 0, Hi: one, No: true}, {Lo: one, Hi: one, No: true}, {Lo: most, Hi: most, No: true}, {Lo: 5, Hi: -5, No: true}, {Lo: math.MinInt, Hi: math.MaxInt, No: true},
		of(1, 0), of(0, -1), of(one+1, one), of(most, -most), of(most, most-1), of(math.MaxInt, math.MinInt), of(math.MinInt, math.MaxInt),
	}
	for _, end := range []int{most + 1, -most - 1, 1 << 32, -1 << 32, 1 << 62, math.MaxInt, math.MinInt, math.MinInt + 1} {
		l = append(l, of(end, end), of(min(0, end), max(0, end)), of(max(0, end), min(0, end)), of(-most, end), of(end, most))
	}
	return l
}

// TestOrder: the calls are done as they are written: at these inputs each other way tells other steps.
func TestOrder(t *testing.T) {
	narrow, wide := face(point(512), whole(-1), whole(0)), face(point(64), whole(-1), whole(0))
	rows := []row{
		{"a hyperbola with terms, wide", bent(of(11304, 12621), of(-125345, -124053), of(790795, 792501), point(-79639122), of(-81562532, -81553931)), api.Ray{O: box(point(333747), point(-511078), of(-344664, -342212)), D: box(of(8555, 12471), point(-53103), of(-1998, 518))}, yes(of(-1561549, -1519290), of(36596, 135421), of(719983, 754226), of(-1149508, -1085399))},
		{"a hollow one with terms, wide", bent(of(-7485, -6105), of(-60506, -57736), of(-782047, -781331), of(131586756, 131598202), of(-251588297, -251549084)), api.Ray{O: box(of(243544, 245331), of(-96253, -95999), point(-492823)), D: box(point(33009), point(-3062), of(-64281, -62211))}, yes(of(-2309203, -2216823), of(-919550, -871232), of(7322, 11893), of(2392859, 2554207))},
		{"parts about 0", face(of(30875, 31723), of(69135, 71132), of(-29515, -29480)), api.Ray{O: box(of(-213, 28), of(-15485, -15451), of(-14909, -14894)), D: box(of(-12, 27), of(-2, 32), of(189, 198))}, yes(of(-10356687, -3085122), of(-4480, 1925), of(-20542, -15134), of(-16720, 5724))},
		{"z about 0", face(of(-20990, -20408), of(-126538, -123821), of(-372162, -369389)), api.Ray{O: box(of(42549, 43131), point(-143135), of(-369579, -368674)), D: box(point(-29658), of(17165, 19988), of(56550, 56591))}, yes(of(-80811, -65754), of(72305, 79702), of(-167782, -160357), of(-69972, -53250))},
		{"y about 0", face(of(-24673, -24415), point(-141498), of(-909787, -907665)), api.Ray{O: box(point(514720), of(-624, 3056), of(-129301, -127719)), D: box(of(-29609, -26309), of(-55887, -52789), point(-55757))}, yes(of(396402, 454662), of(309304, 355588), of(-388346, -316244), of(391544, 444816))},
		{"a, past the bounds first", narrow, from(0, 0, -1, at(92, 92, 92)), unsure}, {"c, past the bounds first", narrow, ray(92, 92, 92), unsure},
		{"b, in the other order past the bounds", wide, from(100, 79, 100, at(100, -79, -100)), yes(of(-2494330, -2494322), of(-242879400, -242878600), of(202228782, 202229414), of(255985800, 255986600))}, {"b, in a third order past the bounds", wide, from(79, 100, 100, at(-79, 100, -100)), yes(of(-2494330, -2494322), of(202228782, 202229414), of(-242879400, -242878600), of(255985800, 255986600))},
		{"a vertex at the bounds", face(point(quarter), whole(0), whole(16384)), ray(4, 0, 16383), yes(whole(3), whole(4), whole(0), whole(2))}, {"a vertex at the lower bounds", face(point(quarter), whole(0), whole(-16384)), ray(4, 0, -16384), yes(whole(2), whole(4), whole(0), whole(2))},
		{"t near the bounds", bent(whole(0), whole(1), whole(0), whole(0), whole(0)), api.Ray{O: box(whole(0), whole(0), point(-128*one+511)), D: box(whole(0), whole(0), point(512))}, unsure}, {"beyond", bent(whole(0), whole(1), whole(10), whole(3), whole(0)), ray(32, 0, 0), unsure},
	}
	checkRows(t, rows)
	for name, w := range otherwise() {
		same := 0
		for _, r := range rows {
			if w.said(r.s, r.r) == r.want {
				same++
			}
		}
		if same == len(rows) {
			t.Errorf("15.1: %q tells the same of every row", name)
		}
	}
}

// faces are planes, balls of either sign and other conics, with terms and without, numbers that are not right among them.
func faces() []api.Surf {
	ats := []api.Iv{whole(0), whole(10), whole(-3), of(655300, 655400), wholes(-1, 2), none}
	terms := []api.Iv{whole(0), whole(200), whole(-5000), of(-77, 78), wholes(300, 301), point(-one / 5), none, whole(8192)}
	var l []api.Surf
	for n, curve := range []api.Iv{whole(0), point(quarter), point(-quarter), of(1310, 1311), of(-1311, -1310), of(-7000, -6500), of(0, 900), of(-quarter, quarter), point(1), whole(2), none, of(5, 4)} {
		for m, conic := range []api.Iv{whole(1), whole(0), whole(-1), point(-3 * one), point(one / 2), whole(2), of(-one, one), of(one-3, one+3), none, point(most + 1)} {
			s := face(curve, conic, ats[(n+m)%6])
			s.A4, s.A6 = terms[(n*3+m)%8], terms[(n+m*5+1)%8]
			l = append(l, s)
			for k := range 4 {
				l = append(l, bent(curve, conic, ats[(n+m*2+k)%6], terms[(n+m+k*3)%8], terms[(n*5+m+k)%8]))
			}
		}
	}
	return l
}

// rays are narrow and wide, along the axis and aslant, numbers that are not right among them.
func rays() []api.Ray {
	ways := []api.V{axis, aslant, box(of(-5, 5), of(-9, 4), of(65530, 65536)), box(point(30000), of(-20000, -19900), of(54660, 54680)), at(0, 0, -1), at(3, -2, 4), box(point(60), of(-70, -60), of(190, 200)), at(1, 0, 0), box(none, whole(0), whole(1)), box(whole(0), of(1, 0), whole(1)), box(whole(0), whole(0), point(most+1)), box(wholes(-2, 2), wholes(-2, 2), wholes(-2, 2))}
	var l []api.Ray
	for _, o := range []api.V{at(0, 0, 0), at(1, -2, 0), at(4, 0, 9), at(0, 5, 0), at(-3, 3, 10), box(of(one, one+100), of(-2*one, -2*one+50), of(0, 33)), box(wholes(3, 5), whole(0), whole(0)), box(of(-300, 200), of(-10, 500), of(655000, 655010)), at(128, 0, 10), at(30, -20, -40), box(whole(0), none, whole(0)), box(of(7, -7), whole(0), whole(0)), box(whole(0), whole(0), of(-most, most))} {
		for _, d := range ways {
			l = append(l, api.Ray{O: o, D: d})
		}
	}
	return l
}

// TestWords: of all that can be handed in, right or not, the answer is by the words, and each time the same (R1, R4).
func TestWords(t *testing.T) {
	w := written()
	var count [2][3]int
	for _, s := range faces() {
		for _, r := range rays() {
			want := w.said(s, r)
			for range 2 {
				if got := tell(s, r); got != want {
					t.Errorf("15.1: Of(%+v, %+v) = %+v, not %+v", s, r, got, want)
				}
			}
			k := 0
			if s.Bent {
				k = 1
			}
			count[k][want.is]++
		}
	}
	for k, l := range count {
		for is, n := range l {
			if n < 500 {
				t.Errorf("15.1: only %d answers are %d of faces with Bent %d", n, is, k)
			}
		}
	}
}

// TestNotBent: where Bent is false terms count for nothing, whatever they are.
func TestNotBent(t *testing.T) {
	all := append(wrong(), whole(0), whole(200), whole(-5000), of(-most, most))
	for _, s := range faces() {
		if s.Bent {
			continue
		}
		for n, r := range rays() {
			if n%5 > 0 {
				continue
			}
			want := tell(s, r)
			for k, a := range all {
				s.A4, s.A6 = a, all[(k*3+n)%len(all)]
				if got := tell(s, r); got != want {
					t.Errorf("15.1: Of(%+v, %+v) = %+v, not %+v", s, r, got, want)
				}
			}
		}
	}
}

// TestOtherParts: Stop, Open2 and Ratio change nothing.
func TestOtherParts(t *testing.T) {
	others := append(wrong(), whole(0), whole(5), of(-one, one), of(-most, most))
	dish := bent(point(quarter), whole(0), whole(10), whole(200), whole(-5000))
	for _, s := range []api.Surf{face(whole(0), whole(1), whole(10)), face(point(quarter), whole(1), whole(10)), face(of(-1311, -1310), whole(-3), wholes(9, 10)), dish, bent(whole(0), whole(1), whole(10), whole(3), whole(0)), face(none, whole(1), whole(10))} {
		for _, r := range []api.Ray{ray(0, 0, 0), ray(4, 0, 0), ray(5, 0, 0), from(1, -2, 0, aslant), broad, ray(32, 0, 0)} {
			want := tell(s, r)
			stop := s
			stop.Stop = true
			checkRows(t, []row{{"of a stop", stop, r, want}})
			for k, a := range others {
				all, open, ratio := s, s, s
				open.Open2, ratio.Ratio = a, a
				all.Stop, all.Open2, all.Ratio = k%2 == 0, a, others[(k*3+2)%len(others)]
				for _, other := range []api.Surf{all, open, ratio} {
					if got := tell(other, r); got != want {
						t.Errorf("15.1: Of(%+v, %+v) = %+v, not %+v", other, r, got, want)
					}
				}
			}
		}
	}
}

// numbersOf are s's and r's numbers, one by one.
func numbersOf(s *api.Surf, r *api.Ray) []*api.Iv {
	return []*api.Iv{&s.Curve, &s.Conic, &s.At, &r.O.X, &r.O.Y, &r.O.Z, &r.D.X, &r.D.Y, &r.D.Z, &s.A4, &s.A6}
}

// TestNotRight: with a number of the face or of the ray that is not right, each in its turn, nothing is said; of A4 and A6, where it is Bent.
func TestNotRight(t *testing.T) {
	faces := []api.Surf{face(whole(0), whole(1), whole(10)), face(whole(0), whole(0), whole(0)), face(point(quarter), whole(1), whole(10)), bent(whole(0), whole(0), whole(0), whole(0), whole(0)), bent(point(quarter), whole(0), whole(10), whole(200), whole(-5000))}
	for _, bad := range wrong() {
		for _, s := range faces {
			for _, r := range []api.Ray{ray(0, 0, 0), from(1, 0, 0, axis), broad, ray(0, 5, 0)} {
				was := tell(s, r)
				for k := range 11 {
					other, turned := s, r
					*numbersOf(&other, &turned)[k] = bad
					want := unsure
					if k > 8 && (!s.Bent || was.is == api.No) {
						want = was
					}
					if got := tell(other, turned); got != want {
						t.Errorf("15.1: number %d: Of(%+v, %+v) = %+v, not %+v", k, other, turned, got, want)
					}
				}
			}
		}
		all := api.V{X: bad, Y: bad, Z: bad}
		checkRows(t, []row{{"none that is right", api.Surf{Bent: true, Curve: bad, Conic: bad, At: bad, A4: bad, A6: bad}, api.Ray{O: all, D: all}, unsure}, {"no ray that is right", faces[0], api.Ray{O: all, D: all}, unsure}, {"no way that is right", faces[0], from(0, 0, 0, all), unsure}, {"no place that is right", faces[0], api.Ray{O: all, D: axis}, unsure}})
	}
}

// lesser are some intervals that lie in a.
func lesser(a api.Iv) [7]api.Iv {
	n := within(a)
	return [7]api.Iv{a, point(n[0]), point(n[1]), point(n[3]), of(n[0], n[2]), of(n[1], n[3]), of(n[1], n[2])}
}

// lie are faces and rays that lie in s and r: some in one number of the ray alone, some in all of it, some in all of both.
func lie(s api.Surf, r api.Ray) (l []row) {
	for k := range 7 {
		for n := 3; n < 9; n++ {
			inner, narrow := s, r
			*numbersOf(&inner, &narrow)[n] = lesser(*numbersOf(&s, &r)[n])[k]
			l = append(l, row{s: inner, r: narrow})
		}
		inner, narrow := s, r
		for n := 3; n < 9; n++ {
			*numbersOf(&inner, &narrow)[n] = lesser(*numbersOf(&s, &r)[n])[(k*n+1)%7]
		}
		l = append(l, row{s: inner, r: narrow})
		for n := range 11 {
			*numbersOf(&inner, &narrow)[n] = lesser(*numbersOf(&s, &r)[n])[(k+n*2+1)%7]
		}
		l = append(l, row{s: inner, r: narrow})
	}
	return l
}

// boxes are faces and rays that are right, and wide in their numbers.
func boxes() (l []row) {
	ats := []api.Iv{whole(10), of(655300, 655400), wholes(9, 10), whole(0)}
	terms := []api.Iv{of(-77, 78), wholes(-1, 2), whole(200), wholes(300, 301), wholes(-90, -80), whole(0), wholes(-5000, -4990)}
	ways := []api.V{axis, box(point(10000), of(-3000, -2990), of(64690, 64700)), box(of(-500, 500), of(-900, 400), of(65000, 65536)), box(of(20000, 21000), of(-20000, -19000), of(58000, 59000)), box(of(60, 90), of(-70, -60), of(190, 200)), box(of(-900, 900), whole(0), of(-100, 300))}
	for n, curve := range []api.Iv{whole(0), of(1310, 1311), of(-7000, -6500), of(0, 900), of(-3, 2), of(15000, 16000), point(-quarter), of(-900, 900)} {
		for m, conic := range []api.Iv{whole(1), of(one-3, one+300), of(-one, one), wholes(-3, -2), of(0, one/2), of(-1, 0), wholes(1, 3)} {
			for i, o := range []api.V{at(0, 0, 0), box(of(one, one+100), of(-2*one, -2*one+50), of(0, 33)), box(wholes(3, 5), of(-one, 2*one), wholes(0, 1)), box(of(-30000, 20000), of(-10, 50000), of(655000, 657000)), box(wholes(5, 6), wholes(-1, 1), of(9*one, 9*one+900)), box(of(0, 40), wholes(20, 22), wholes(-30, -29))} {
				for j, d := range ways {
					s := face(curve, conic, ats[(n+m+i+j)%4])
					if (n+m+i+j)%2 == 0 {
						s = bent(curve, conic, ats[(n+i)%4], terms[(m+i+j)%7], terms[(n+m*3+j*2)%7])
					}
					l = append(l, row{s: s, r: api.Ray{O: o, D: d}})
				}
			}
		}
	}
	return l
}

// checkLess holds what was told of less against what was told of more, and tells whether both say that it is met.
func checkLess(t *testing.T, more, less row) bool {
	t.Helper()
	got, inner := tell(more.s, more.r), tell(less.s, less.r)
	if got.is == api.Yes && inner.is == api.No || got.is == api.No && inner.is == api.Yes || !more.s.Bent && got.is != api.Unsure && got.is != inner.is {
		t.Errorf("15.2: Of(%+v, %+v) is %d, and %d of less, %+v, %+v", more.s, more.r, got.is, inner.is, less.s, less.r)
		return false
	}
	if got.is != api.Yes || inner.is != api.Yes {
		return false
	}
	if !more.s.Bent && !(iv.Inside(inner.t, got.t) && vec.Inside(inner.p, got.p)) {
		t.Errorf("15.2: Of(%+v, %+v) = %+v, not in that of more, %+v, %+v: %+v", less.s, less.r, inner, more.s, more.r, got)
	}
	// Both have the one zero that there is.
	if !iv.Right(iv.Meet(inner.t, got.t)) {
		t.Errorf("W1: Of(%+v, %+v) = %+v, nowhere near that of more, %+v, %+v: %+v", less.s, less.r, inner, more.s, more.r, got)
	}
	return true
}

// TestLess: of a smaller ray t and the place lie in the larger one's, of a face that is not Bent; what is Yes is not No of less, nor what is No Yes, of Bent ones too (W1, W2).
func TestLess(t *testing.T) {
	var met, past [2]int
	for _, more := range boxes() {
		k := 0
		if more.s.Bent {
			k = 1
		}
		if tell(more.s, more.r).is == api.No {
			past[k]++
		}
		for _, less := range lie(more.s, more.r) {
			if checkLess(t, more, less) {
				met[k]++
			}
		}
	}
	// What is Unsure holds anything: the test is one only while much is said.
	if min(met[0], met[1]) < 10000 || min(past[0], past[1]) < 15 {
		t.Errorf("15.2: only %d faces are met by more and by less, and %d not by more", met, past)
	}
}

// TestTurned: rays that are turned by quarters, and mirrored, meet a face in the same t, at the place that is turned and mirrored (W3).
func TestTurned(t *testing.T) {
	for _, r := range boxes() {
		r.what, r.want = "turned", tell(r.s, r.r)
		for k := range 8 {
			other := r.turned(k%4, k > 3)
			if got := tell(other.s, other.r); got != other.want {
				t.Errorf("W3: %d quarters of Of(%+v, %+v): %+v, not %+v", k, r.s, r.r, got, other.want)
			}
		}
	}
}

// TestHeld: of exact faces and rays in a box t and the place lie in its answer (W1).
func TestHeld(t *testing.T) {
	var said [2][3]int
	for _, r := range boxes() {
		got := tell(r.s, r.r)
		k := 0
		if r.s.Bent {
			k = 1
		}
		for _, n := range members(r.s, r.r) {
			said[k][got.is]++
			checkHeld(t, got, n)
		}
	}
	for k, l := range said {
		if l[api.Yes] < 1500 || l[api.No] < 50 {
			t.Errorf("W1: only %v rays were held of faces with Bent %d", l, k)
		}
	}
}

// TestOfLens: exact rays through a lens that was read lie in the answers of what it is in numbers (W1), which are narrow.
func TestOfLens(t *testing.T) {
	l, _, e := lens.Read("lens a 40\nface -50.3 10 2 air conic -0.5 a4 0.7 a6 -1.9\nface 17.1 5 2 air\nface 0 5 2 air a4 -3.3\nstop 4 1\nface 31.7 5 2 air conic -1\nface -9.9 5 2 air conic 0.31 a6 12.34\n", nil)
	if e != api.OK {
		t.Fatalf("12.1: %d", e)
	}
	s, e := system.Build(l, nil, whole(1))
	if e != api.OK {
		t.Fatalf("13.1: %d", e)
	}
	for k, surf := range s.Surfs {
		for n := range 60 {
			r := api.Ray{O: box(point(n*997-30000), point(20000-n*31), whole(0)), D: box(point(n*50-1000), point(1500-n*43), point(65500))}
			got := tell(surf, r)
			if got.is != api.Yes || got.t.Hi-got.t.Lo > one/4 {
				t.Errorf("15.1: of face %d and %+v only %+v", k, r, got)
			}
			for _, n := range members(surf, r) {
				checkHeld(t, got, n)
			}
		}
	}
}

// TestNothingPanics: whatever is handed in; a None has Lo and Hi 0 (R1, R3).
func TestNothingPanics(t *testing.T) {
	ints := []int{math.MinInt, -1 << 32, -most - 1, -most, -1, 0, 1, 256, one, most, most + 1, 1 << 32, math.MaxInt}
	for n, a := range ints {
		for m, b := range ints {
			for k := range 96 {
				x, y := api.Iv{Lo: a, Hi: b, No: k%16 == 15}, of(ints[(n+k)%13], ints[(m+k*3)%13])
				l := [7]api.Iv{x, y, whole(0), whole(1), of(a, a), of(b, b), point(quarter)}
				s := api.Surf{Stop: k%2 == 0, Bent: k%4 < 3, Open2: y, Ratio: x}
				var r api.Ray
				for i, p := range numbersOf(&s, &r) {
					*p = l[(k*(i+1)/3+i)%7]
				}
				got := tell(s, r)
				if got != no && got != unsure && (got.is != api.Yes || !iv.Right(got.t) || !vec.Right(got.p)) {
					t.Errorf("15.1: Of(%+v, %+v) = %+v: neither right nor None", s, r, got)
				}
				if again := tell(s, r); again != got {
					t.Errorf("R4: Of(%+v, %+v) = %+v, then %+v", s, r, got, again)
				}
			}
		}
	}
	if got := tell(api.Surf{}, api.Ray{}); got != unsure {
		t.Errorf("15.1: of a face and a ray whose numbers are 0: %+v", got)
	}
}

// TestAsOften: the same is answered however often it is asked, whatever was asked between, and nothing that is handed in is changed (R2, R4).
func TestAsOften(t *testing.T) {
	dish := bent(point(quarter), whole(0), whole(10), whole(200), whole(-5000))
	rows := []row{
		{"a plane", face(whole(0), whole(1), whole(10)), from(1, 2, 0, at(3, -1, 2)), yes(whole(5), whole(16), whole(-3), whole(0))}, {"both terms", dish, ray(4, 0, 0), yes(of(788442, 788448), whole(4), whole(0), of(133082, 133088))},
		{"past it", face(point(quarter), whole(1), whole(10)), ray(5, 0, 0), no}, {"a number that is none", bent(none, whole(1), whole(10), whole(1), none), ray(0, 0, 0), unsure},
	}
	kept := append([]row(nil), rows...)
	for range 3 {
		for k := range rows {
			checkRows(t, rows[k:k+1])
			for _, r := range rows {
				hit.Of(r.s, r.r)
				hit.Of(r.s, broad)
			}
			checkRows(t, rows[k:k+1])
		}
	}
	for k := range rows {
		if rows[k] != kept[k] {
			t.Errorf("R2: %+v was changed", kept[k])
		}
	}
}

// FuzzOf: nothing panics, and each answer is as the document says.
func FuzzOf(f *testing.F) {
	f.Add(quarter, one, 10*one, 0, 0, 3*one, -one, 0, 10000, -3000, 64697, 0, false)
	f.Add(-1311, 0, 10*one, 300*one, -7*one, 3*one, -one, 0, 10000, -3000, 64697, 7, true)
	f.Add(0, -one, most, one, math.MinInt, math.MaxInt, 0, most, 1, 0, 512, 1, true)
	f.Fuzz(func(t *testing.T, curve, conic, at, a4, a6, x, y, z, u, v, w, wide int, isBent bool) {
		s := api.Surf{Bent: isBent}
		var r api.Ray
		for k, p := range numbersOf(&s, &r) {
			lo := []int{curve, conic, at, x, y, z, u, v, w, a4, a6}[k]
			*p = of(lo, lo+wide>>k)
		}
		got := tell(s, r)
		if want := written().said(s, r); got != want {
			t.Errorf("15.1: Of(%+v, %+v) = %+v, not %+v", s, r, got, want)
		}
		for _, n := range members(s, r) {
			checkHeld(t, got, n)
		}
	})
}

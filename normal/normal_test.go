package normal_test

import (
	"math"
	"math/big"
	"testing"

	"meniscus/api"
	"meniscus/hit"
	"meniscus/iv"
	"meniscus/lens"
	"meniscus/normal"
	"meniscus/sag"
	"meniscus/system"
	"meniscus/vec"
)

const (
	one     = api.One
	most    = api.Most
	quarter = one / 4
)

var (
	none  = api.Iv{No: true}
	nones = api.V{X: none, Y: none, Z: none}
)

func of(lo, hi int) api.Iv {
	return api.Iv{Lo: lo, Hi: hi}
}

func point(n int) api.Iv {
	return of(n, n)
}

// whole is a point of a whole number: One steps to each 1.
func whole(n int) api.Iv {
	return point(n * one)
}

// wholes is from one whole number to another.
func wholes(lo, hi int) api.Iv {
	return of(lo*one, hi*one)
}

func box(x, y, z api.Iv) api.V {
	return api.V{X: x, Y: y, Z: z}
}

// at is a place, or a way, of whole numbers.
func at(x, y, z int) api.V {
	return box(whole(x), whole(y), whole(z))
}

// face is one without terms: its curve, and 1 and its conic constant.
func face(curve, conic api.Iv) api.Surf {
	return api.Surf{Curve: curve, Conic: conic, A4: whole(0), A6: whole(0)}
}

// bent is one with terms.
func bent(curve, conic, a4, a6 api.Iv) api.Surf {
	return api.Surf{Bent: true, Curve: curve, Conic: conic, A4: a4, A6: a6}
}

// row of a table: what is asked, and what is to be answered.
type row struct {
	what string
	s    api.Surf
	p    api.V
	want api.V
}

// motion is one of the eight that bring a square upon itself: k quarters on, mirrored first from the fourth on.
func motion(a api.V, k int) api.V {
	if k > 3 {
		a = vec.Mirror(a)
	}
	return vec.Turn(a, k%4)
}

// checkTurned holds the rows, turned by quarters and mirrored (W3).
func checkTurned(t *testing.T, rows []row) {
	t.Helper()
	for _, r := range rows {
		for k := range 8 {
			p, want := motion(r.p, k), motion(r.want, k)
			if got := normal.Of(r.s, p); got != want {
				t.Errorf("16.1: %s: Of(%+v, %+v) = %+v, not %+v", r.what, r.s, p, got, want)
			}
		}
	}
}

// checkRows holds the rows, turned and mirrored, and exact faces and places in them (W1).
func checkRows(t *testing.T, rows []row) {
	t.Helper()
	checkTurned(t, rows)
	for _, r := range rows {
		for _, n := range members(r.s, r.p) {
			checkHeld(t, r.want, n)
		}
	}
}

// numbers are an exact face's and an exact place's.
type numbers struct {
	bent                 bool
	curve, conic, a4, a6 *big.Rat
	p                    [3]*big.Rat
}

// rat is n / by, exact.
func rat(n, by int) *big.Rat {
	return big.NewRat(int64(n), int64(by))
}

func product(l ...*big.Rat) *big.Rat {
	p := rat(1, 1)
	for _, a := range l {
		p.Mul(p, a)
	}
	return p
}

func total(l ...*big.Rat) *big.Rat {
	p := new(big.Rat)
	for _, a := range l {
		p.Add(p, a)
	}
	return p
}

func less(a *big.Rat) *big.Rat {
	return new(big.Rat).Neg(a)
}

// within are some whole numbers in a.
func within(a api.Iv) [4]int {
	return [4]int{a.Lo, a.Lo + (a.Hi-a.Lo)/3, a.Lo + (a.Hi-a.Lo)/2, a.Hi}
}

// members are some exact faces and places that lie in s and p; none where a number that counts is not right.
func members(s api.Surf, p api.V) (l []numbers) {
	all := []api.Iv{s.Curve, s.Conic, p.X, p.Y, p.Z, whole(0), whole(0)}
	if s.Bent {
		all[4], all[5], all[6] = whole(0), s.A4, s.A6
	}
	points := true
	for _, a := range all {
		if !iv.Right(a) {
			return nil
		}
		points = points && a.Lo == a.Hi
	}
	for k := range 4 {
		if points && k > 0 {
			break
		}
		var picked [7]*big.Rat
		for n, a := range all {
			picked[n] = rat(within(a)[(k*(2*n+1)+n)%4], one)
		}
		l = append(l, numbers{s.Bent, picked[0], picked[1], picked[5], picked[6], [3]*big.Rat(picked[2:5])})
	}
	return l
}

// roots are the root of a, which is not below 0, from below and from above: the same, if it is exact, else very near to one another.
func roots(a *big.Rat) [2]*big.Rat {
	fine := new(big.Int).Lsh(big.NewInt(1), 200)
	square := new(big.Int).Mul(a.Num(), a.Denom())
	square.Mul(square, fine).Mul(square, fine)
	low := new(big.Int).Sqrt(square)
	high := new(big.Int).Set(low)
	if new(big.Int).Mul(low, low).Cmp(square) != 0 {
		high.Add(high, big.NewInt(1))
	}
	by := new(big.Int).Mul(a.Denom(), fine)
	return [2]*big.Rat{new(big.Rat).SetFrac(low, by), new(big.Rat).SetFrac(high, by)}
}

// far is the square of the distance of (x, y) from the axis.
func far(x, y *big.Rat) *big.Rat {
	return total(product(x, x), product(y, y))
}

// square is what the root is taken of for how deep the face is: below 0 it is nowhere, at 0 it is upright.
func (n numbers) square(r2 *big.Rat) *big.Rat {
	return total(rat(1, 1), less(product(n.conic, n.curve, n.curve, r2)))
}

// depth is how deep the face is at (x, y), from below and from above.
func (n numbers) depth(x, y *big.Rat) (z [2]*big.Rat) {
	r2 := far(x, y)
	u := product(r2, rat(1, 1000))
	for k, q := range roots(n.square(r2)) {
		cone := new(big.Rat).Quo(product(n.curve, r2), total(rat(1, 1), q))
		z[k] = total(cone, product(n.a4, u, u), product(n.a6, u, u, u))
	}
	return z
}

// across are the parts of a way across the face, not by its length: for a Bent one from below and from above; none, where there is no face, or an upright one.
func (n numbers) across() (l [][3]*big.Rat) {
	if !n.bent {
		return [][3]*big.Rat{{less(product(n.curve, n.p[0])), less(product(n.curve, n.p[1])), total(rat(1, 1), less(product(n.curve, n.conic, n.p[2])))}}
	}
	r2 := far(n.p[0], n.p[1])
	if n.square(r2).Sign() <= 0 {
		return nil
	}
	for _, q := range roots(n.square(r2)) {
		cone := new(big.Rat).Quo(n.curve, total(q, q))
		// By u, which is r2 / 1000, a4 u u + a6 u u u has the slope 2 a4 u + 3 a6 u u.
		slope := total(cone, product(rat(2, 1000*1000), n.a4, r2), product(rat(3, 1000*1000*1000), n.a6, r2, r2))
		l = append(l, [3]*big.Rat{product(rat(-2, 1), slope, n.p[0]), product(rat(-2, 1), slope, n.p[1]), rat(1, 1)})
	}
	return l
}

// unit is a by its length, from below and from above; false, where that is 0.
func unit(a [3]*big.Rat) (l [][3]*big.Rat, ok bool) {
	square := total(product(a[0], a[0]), product(a[1], a[1]), product(a[2], a[2]))
	if square.Sign() == 0 {
		return nil, false
	}
	for _, long := range roots(square) {
		by := new(big.Rat).Inv(long)
		l = append(l, [3]*big.Rat{product(a[0], by), product(a[1], by), product(a[2], by)})
	}
	return l, true
}

// checkHeld holds what was told of a box against an exact face and place in it (W1).
func checkHeld(t *testing.T, got api.V, n numbers) {
	t.Helper()
	if got == nones {
		return
	}
	var all [][3]*big.Rat
	for _, a := range n.across() {
		l, _ := unit(a)
		all = append(all, l...)
	}
	if len(all) == 0 {
		t.Errorf("16.1: %+v of %+v, where there is no way across", got, n)
		return
	}
	for k, part := range [3]api.Iv{got.X, got.Y, got.Z} {
		lo, hi := all[0][k], all[0][k]
		for _, a := range all {
			if a[k].Cmp(lo) < 0 {
				lo = a[k]
			}
			if a[k].Cmp(hi) > 0 {
				hi = a[k]
			}
		}
		if iv.Right(part) && (rat(part.Lo, one).Cmp(hi) > 0 || lo.Cmp(rat(part.Hi, one)) > 0) {
			t.Errorf("W1: part %d of %+v is without that of %+v", k, got, n)
		}
	}
}

// TestExample: the example of chapter 16.
func TestExample(t *testing.T) {
	for _, p := range []api.V{at(0, 0, 0), at(3, -7, 0), at(100, 50, 0), box(wholes(-5, 5), wholes(1, 2), whole(0))} {
		checkRows(t, []row{{"a plane", face(whole(0), whole(1)), p, at(0, 0, 1)}})
	}
}

// TestPlanes: whatever their Conic, wherever the place is, on them or not.
func TestPlanes(t *testing.T) {
	for _, conic := range []api.Iv{whole(1), whole(0), whole(2), whole(-3), point(-7*one - 3), wholes(-5, 5), point(1)} {
		for _, p := range []api.V{at(0, 0, 0), at(3, -7, 0), at(-30, 0, 5), at(0, 16384, -1), at(1000, -1000, 1000), box(wholes(-9, 9), wholes(2, 3), wholes(-1, 1)), box(of(-most, most), of(-most, most), whole(0))} {
			checkRows(t, []row{{"a plane", face(whole(0), conic), p, at(0, 0, 1)}})
		}
	}
}

// TestBalls: a Conic of 1, of either sign of Curve: at the vertex, at the side, at the back, and off the ball.
func TestBalls(t *testing.T) {
	ball, hollow := face(point(quarter), whole(1)), face(point(-quarter), whole(1))
	checkRows(t, []row{
		{"at its vertex", ball, at(0, 0, 0), at(0, 0, 1)}, {"at its side", ball, at(4, 0, 4), at(-1, 0, 0)}, {"at its side, in y", ball, at(0, -4, 4), at(0, 1, 0)}, {"at its back", ball, at(0, 0, 8), at(0, 0, -1)},
		{"by 3, 4, 5", ball, at(12, 0, -12), box(of(-39322, -39321), whole(0), of(52428, 52429))}, {"by 1, 2, 2", ball, at(4, 8, -4), box(of(-21846, -21845), of(-43691, -43690), of(43690, 43691))},
		{"by 2, 3, 6", ball, at(8, -12, -20), box(of(-18725, -18724), of(28086, 28087), of(56173, 56174))}, {"past its middle", ball, at(4, 8, 12), box(of(-21846, -21845), of(-43691, -43690), of(-43691, -43690))},
		{"on it, at 2", ball, box(whole(2), whole(0), of(35120, 35121)), box(of(-32770, -32767), whole(0), of(56754, 56758))}, {"on it, at 3", ball, box(whole(0), whole(-3), of(88752, 88753)), box(whole(0), of(49151, 49154), of(43346, 43350))},
		{"wide", ball, box(wholes(1, 2), wholes(-2, -1), wholes(0, 1)), box(of(-39521, -13377), of(13377, 39521), of(40132, 79041))}, {"about the axis", ball, box(wholes(-1, 1), wholes(-1, 2), of(0, 32768)), box(of(-18725, 18725), of(-37450, 18725), of(50053, 74899))},
		{"a hollow, at its vertex", hollow, at(0, 0, 0), at(0, 0, 1)}, {"a hollow, at its side", hollow, at(4, 0, -4), at(1, 0, 0)}, {"a hollow, at its back", hollow, at(0, 0, -8), at(0, 0, -1)},
		{"a hollow, by 3, 4, 5", hollow, at(12, 0, 12), box(of(39321, 39322), whole(0), of(52428, 52429))}, {"a hollow, by 1, 2, 2", hollow, at(4, 8, 4), box(of(21845, 21846), of(43690, 43691), of(43690, 43691))}, {"a hollow, wide", hollow, box(wholes(1, 2), wholes(-2, -1), wholes(-1, 0)), box(of(13377, 39521), of(-39521, -13377), of(40132, 79041))},
		{"of 50", face(of(1310, 1311), whole(1)), box(whole(10), whole(-5), of(82500, 82600)), box(of(-13110, -13097), of(6548, 6555), of(63871, 63885))}, {"of -50", face(of(-1311, -1310), whole(1)), box(whole(10), whole(-5), of(-82600, -82500)), box(of(13097, 13110), of(-6555, -6548), of(63871, 63885))},
		{"perhaps a ball, perhaps a hollow", face(of(-quarter, quarter), whole(1)), at(2, 0, 1), box(of(-43691, 43691), whole(0), of(36508, 109227))},
	})
}

// TestConics: below, at and above 0, of either sign of Curve, and some that may be either.
func TestConics(t *testing.T) {
	conic := func(k int) api.Surf { return face(point(quarter), point(k)) }
	hollow := func(k int) api.Surf { return face(point(-quarter), point(k)) }
	here, there, near, wide := at(4, -8, -4), at(4, -8, 4), at(1, 2, 1), box(wholes(1, 2), wholes(-2, -1), wholes(0, 1))
	checkRows(t, []row{
		{"Conic of -3", conic(-3 * one), here, box(of(-21846, -21845), of(43690, 43691), of(-43691, -43690))}, {"Conic of -3, hollow", hollow(-3 * one), there, box(of(21845, 21846), of(-43691, -43690), of(-43691, -43690))},
		{"Conic of -3, near by", conic(-3 * one), near, box(of(-8919, -8918), of(-17837, -17836), of(62427, 62429))}, {"Conic of -3, wide", conic(-3 * one), wide, box(of(-30895, -8680), of(8680, 30895), of(34721, 108130))},
		{"Conic of -1", conic(-one), here, box(of(-29309, -29308), of(58617, 58618), whole(0))}, {"Conic of -1, hollow", hollow(-one), there, box(of(29308, 29309), of(-58618, -58617), whole(0))},
		{"Conic of -1, near by", conic(-one), near, box(of(-11966, -11965), of(-23931, -23930), of(59825, 59827))}, {"Conic of -1, wide", conic(-one), wide, box(of(-30895, -11408), of(11408, 30895), of(45633, 77236))},
		{"Conic of -1/2", conic(-one / 2), here, box(of(-28603, -28602), of(57204, 57205), of(14301, 14302))}, {"Conic of -1/2, hollow", hollow(-one / 2), there, box(of(28602, 28603), of(-57205, -57204), of(14301, 14302))},
		{"Conic of -1/2, near by", conic(-one / 2), near, box(of(-13043, -13042), of(-26085, -26084), of(58689, 58691))}, {"Conic of -1/2, wide", conic(-one / 2), wide, box(of(-30895, -12330), of(12330, 30895), of(49320, 69512))},
		{"Conic of 0", conic(0), here, box(of(-26756, -26754), of(53509, 53511), of(26754, 26756))}, {"Conic of 0, hollow", hollow(0), there, box(of(26754, 26756), of(-53511, -53509), of(26754, 26756))},
		{"Conic of 0, near by", conic(0), near, box(of(-14302, -14301), of(-28603, -28602), of(57204, 57206))}, {"Conic of 0, wide", conic(0), wide, box(of(-30895, -13377), of(13377, 30895), of(53509, 61789))},
		{"Conic of 1/2", conic(one / 2), here, box(of(-24340, -24339), of(48678, 48679), of(36508, 36510))}, {"Conic of 1/2, hollow", hollow(one / 2), there, box(of(24339, 24340), of(-48679, -48678), of(36508, 36510))},
		{"Conic of 1/2, near by", conic(one / 2), near, box(of(-15780, -15779), of(-31559, -31558), of(55227, 55228))}, {"Conic of 1/2, wide", conic(one / 2), wide, box(of(-34722, -13377), of(13377, 34722), of(46821, 69444))},
		{"Conic of 2", conic(2 * one), here, box(of(-17516, -17515), of(35030, 35031), of(52545, 52546))}, {"Conic of 2, hollow", hollow(2 * one), there, box(of(17515, 17516), of(-35031, -35030), of(52545, 52546))},
		{"Conic of 2, near by", conic(2 * one), near, box(of(-21846, -21845), of(-43691, -43690), of(43690, 43691))}, {"Conic of 2, wide", conic(2 * one), wide, box(of(-53511, -13377), of(13377, 53511), of(26754, 107022))},
		{"a Conic about 0", face(point(quarter), wholes(-1, 1)), there, box(of(-29309, -21845), of(43690, 58618), of(0, 58618))}, {"a Conic from 0 to 1", face(point(-quarter), wholes(0, 1)), at(4, 0, 4), box(of(29308, 46342), whole(0), of(29308, 92683))},
		{"all wide", face(of(-1400, -1300), wholes(-2, -1)), box(wholes(1, 2), wholes(-2, -1), wholes(-1, 0)), box(of(1244, 2799), of(-2799, -1244), of(62744, 68311))},
	})
}

// TestBent: by the slope of sag: terms of either sign, alone and both, of planes, balls and other conics; terms of 0 too.
func TestBent(t *testing.T) {
	plane := func(a4, a6 int) api.Surf { return bent(whole(0), whole(1), whole(a4), whole(a6)) }
	with := func(curve, conic, a4, a6 int) api.Surf {
		return bent(point(curve), whole(conic), whole(a4), whole(a6))
	}
	checkRows(t, []row{
		{"a plane with terms of 0", plane(0, 0), at(3, -7, 0), at(0, 0, 1)}, {"A4", plane(125, 0), at(30, 10, 4), box(of(-62049, -62048), of(-20683, -20682), of(4136, 4137))}, {"A4 below 0", plane(-125, 0), at(30, 10, -4), box(of(62048, 62049), of(20682, 20683), of(4136, 4137))},
		{"A6", plane(0, 125), at(30, 10, 4), box(of(-62118, -62117), of(-20706, -20705), of(2760, 2761))}, {"A6 below 0", plane(0, -125), at(30, 10, 4), box(of(62117, 62118), of(20705, 20706), of(2760, 2761))},
		{"both", plane(125, 125), at(30, 10, 4), box(of(-62154, -62153), of(-20718, -20717), of(1657, 1658))}, {"both, unlike", plane(125, -125), at(30, 10, 4), box(of(61681, 61682), of(20560, 20561), of(8224, 8225))},
		{"A4, at the vertex", plane(125, 0), at(0, 0, 0), at(0, 0, 1)}, {"A4, further in", plane(125, 0), at(3, -1, 0), box(of(-984, -977), of(325, 328), of(65527, 65530))}, {"A4, wide", bent(whole(0), whole(1), of(-77, one), whole(0)), at(30, 10, 4), box(of(-7920, 60), of(-2640, 20), of(65009, 65536))},
		{"A4, at a wide place", plane(125, 0), box(wholes(20, 30), wholes(-10, -9), whole(0)), box(of(-183128, -19895), of(8952, 61043), of(4136, 12209))}, {"A6, about the axis", plane(0, 125), box(wholes(-30, 20), wholes(-9, 9), whole(0)), box(of(-946080, 1419120), of(-425736, 425736), of(2896, 65536))},
		{"a parabola with terms of 0", with(quarter, 0, 0, 0), at(8, -8, 16), box(of(-43691, -43690), of(43690, 43691), of(21845, 21846))}, {"a hollow one", with(-quarter, 0, 0, 0), at(8, -8, -16), box(of(43690, 43691), of(-43691, -43690), of(21845, 21846))},
		{"a parabola with A4", with(quarter, 0, 200, 0), at(8, -8, 16), box(of(-44953, -44944), of(44944, 44953), of(15943, 15945))}, {"a parabola with both", with(quarter, 0, 200, -5000), at(8, -8, 16), box(of(39076, 39151), of(-39151, -39076), of(35131, 35160))}, {"a hollow one with both", with(-quarter, 0, 200, -5000), at(8, -8, 16), box(of(45893, 45915), of(-45915, -45893), of(8976, 8980))},
		{"Conic of -3, terms of 0, at 4", with(quarter, -3, 0, 0), at(4, 0, 1), box(of(-29309, -29308), whole(0), of(58616, 58618))}, {"Conic of -3, terms of 0, at 8 and 4", with(quarter, -3, 0, 0), at(8, 4, 1), box(of(-28603, -28602), of(-14302, -14301), of(57204, 57206))}, {"Conic of -3, with terms", with(quarter, -3, 200, -5000), at(4, 0, 1), box(of(-30261, -30251), whole(0), of(58132, 58136))},
		{"a ball with terms of 0", with(quarter, 1, 0, 0), at(2, -3, 0), box(of(-32772, -32764), of(49147, 49158), of(28376, 28379))}, {"a ball with A4", with(quarter, 1, 200, 0), at(2, -3, 0), box(of(-32882, -32871), of(49307, 49322), of(27965, 27970))},
		{"a ball with A6", with(quarter, 1, 0, -5000), at(2, -3, 0), box(of(-32721, -32707), of(49060, 49081), of(28578, 28584))}, {"a hollow with both", with(-quarter, 1, 200, -5000), at(2, -3, 0), box(of(32705, 32716), of(-49074, -49058), of(28589, 28594))},
		{"a ball with both, wide", bent(point(quarter), whole(1), wholes(200, 201), wholes(-5000, -4990)), box(of(131072, 131972), of(-196608, -196108), whole(0)), box(of(-33623, -32265), of(48274, 50090), of(27900, 28385))},
		{"a ball with both, about the axis", with(quarter, 1, 200, -5000), box(wholes(-1, 1), wholes(-2, 1), whole(0)), box(of(-20026, 20026), of(-20026, 40052), of(54109, 65536))},
	})
}

// TestDepthNotAsked: of a Bent face Z changes nothing, whatever it is.
func TestDepthNotAsked(t *testing.T) {
	for _, s := range []api.Surf{bent(whole(0), whole(1), whole(125), whole(0)), bent(point(quarter), whole(1), whole(200), whole(-5000)), bent(of(-1311, -1310), whole(-3), whole(0), whole(0))} {
		for _, p := range []api.V{at(0, 0, 0), at(2, -3, 1), box(of(one, one+900), of(-one, one), whole(0))} {
			want := normal.Of(s, p)
			if !vec.Right(want) {
				t.Errorf("16.1: Of(%+v, %+v) = %+v", s, p, want)
			}
			for _, z := range append(wrong(), whole(5), wholes(-3, 3), whole(16384), of(-most, most)) {
				p.Z = z
				if got := normal.Of(s, p); got != want {
					t.Errorf("16.1: Of(%+v, %+v) = %+v, not %+v", s, p, got, want)
				}
			}
		}
	}
}

// TestBounds: numbers on the way at the bounds of what they may be, and past them, where there are three Nones; in another order some would not be past them, or others would.
func TestBounds(t *testing.T) {
	up, down := at(0, 0, 1), at(0, 0, -1)
	unity, flat, dish := face(whole(1), whole(1)), bent(whole(0), whole(1), whole(0), whole(0)), bent(whole(1), whole(0), whole(0), whole(0))
	deep := func(z int) api.V { return box(whole(0), whole(0), point(z)) }
	checkRows(t, []row{
		{"as long as may be", unity, at(128, 0, 1), at(-1, 0, 0)}, {"a step longer", unity, box(point(128*one+1), whole(0), whole(1)), nones}, {"longer, by another part", unity, box(whole(128), point(256), whole(1)), nones}, {"longer, by Z", unity, at(128, 0, 0), nones}, {"much longer", unity, at(16384, 0, 0), nones}, {"Curve by X past the bounds", face(whole(2), whole(1)), at(8193, 0, 0), nones},
		{"as long as may be, by Z", unity, at(0, 0, -127), up}, {"a step longer", unity, deep(-127*one - 1), nones}, {"as long as may be, by Z below 0", unity, at(0, 0, 129), down}, {"a step longer", unity, deep(129*one + 1), nones},
		{"Conic by Z, at the bounds", face(point(256), whole(2)), at(0, 0, 8192), down}, {"Conic by Z, past them", face(point(256), whole(2)), deep(8192*one + 1), nones}, {"so of a plane, at the bounds", face(whole(0), whole(2)), at(5, 0, -8192), up}, {"so of a plane, past them", face(whole(0), whole(2)), deep(-8192*one - 1), nones},
		{"Curve by Conic past them", face(whole(128), whole(256)), deep(256), down}, {"Curve by Z past them", face(whole(16384), point(128)), at(0, 0, 2), down}, {"Curve by Conic by Z past them", face(whole(128), whole(129)), at(0, 0, 1), nones},
		{"a square, at the bounds", flat, at(128, 0, 0), up}, {"a square, past them", flat, box(point(128*one+1), whole(0), whole(0)), nones}, {"a square past them, not Bent", face(whole(0), whole(1)), box(point(128*one+1), whole(0), whole(0)), up}, {"the squares' sum, past them", flat, box(whole(128), point(1), whole(0)), nones}, {"as near to them as may be", dish, at(127, 15, 0), box(of(-65082, -65081), of(-7687, -7686), of(512, 513))}, {"the length past them", dish, at(127, 16, 0), nones},
		{"a ball's side", bent(point(quarter), whole(1), whole(0), whole(0)), at(4, 0, 4), nones}, {"up to it", bent(point(quarter), whole(1), whole(0), whole(0)), box(wholes(3, 4), whole(0), whole(2)), nones}, {"past it", bent(point(quarter), whole(1), whole(1), whole(1)), at(4, 1, 4), nones}, {"past it, not Bent", face(point(quarter), whole(1)), at(8, 0, 4), at(-1, 0, 0)},
	})
	// Where sag's z is none its slope is so too, though this one's is 0 where that is at the bounds, and hardly more a step past them.
	checkRows(t, []row{
		{"z at the bounds", bent(whole(0), whole(1), whole(192), whole(-8)), at(120, 40, 0), up}, {"z past them", bent(whole(0), whole(1), point(192*one+1), whole(-8)), at(120, 40, 0), nones}, {"z past them, by A6", bent(whole(0), whole(1), whole(192), point(-8*one+1)), at(120, 40, 0), nones},
		{"z at the lower bounds", bent(whole(0), whole(1), whole(-192), whole(8)), at(120, 40, 0), up}, {"z below them", bent(whole(0), whole(1), point(-192*one-1), whole(8)), at(120, 40, 0), nones},
	})
}

// TestNoUnit: where the length may be 0 there is no unit: three Nones; and where it is so short that its square is.
func TestNoUnit(t *testing.T) {
	ball, hollow := face(point(quarter), whole(1)), face(point(-quarter), whole(1))
	deep := func(z int) api.V { return box(whole(0), whole(0), point(z)) }
	checkRows(t, []row{
		{"a ball's middle", ball, at(0, 0, 4), nones}, {"a hollow's middle", hollow, at(0, 0, -4), nones}, {"a hyperbola's middle", face(point(quarter), whole(-2)), at(0, 0, -2), nones},
		{"about the middle", ball, box(whole(0), whole(0), wholes(3, 5)), nones}, {"about it in all parts", ball, box(wholes(-1, 1), wholes(-1, 1), wholes(3, 5)), nones}, {"up to it", ball, box(wholes(0, 1), whole(0), wholes(2, 4)), nones}, {"beside it", ball, box(whole(4), wholes(-1, 1), wholes(3, 5)), box(of(-65536, -61787), of(-16384, 16384), of(-16384, 16384))},
		{"just near enough", ball, deep(4*one - 1024), at(0, 0, 1)}, {"too near", ball, deep(4*one - 1020), nones}, {"too near, beyond", ball, deep(4*one + 1020), nones}, {"just near enough, beyond", ball, deep(4*one + 1024), at(0, 0, -1)},
		{"perhaps through the middle", face(wholes(0, 1), whole(1)), at(0, 0, 1), nones}, {"a Conic that may be so", face(whole(1), wholes(0, 2)), at(0, 0, 1), nones}, {"all that there is", face(of(-most, most), of(-most, most)), box(of(-most, most), of(-most, most), of(-most, most)), nones},
	})
}

// TestNoPart: it is the unit as vec has it: where by a short length one part alone is past the bounds, that one alone is None.
func TestNoPart(t *testing.T) {
	short := func(x int) api.V { return box(wholes(-x, x), whole(0), point(one-256)) }
	ball := face(whole(1), whole(1))
	checkRows(t, []row{
		{"at the bounds", ball, short(64), box(wholes(-16384, 16384), whole(0), of(3, 65536))}, {"past them", ball, short(65), box(none, whole(0), of(3, 65536))},
	})
}

// ways are how the parts of the answer are reckoned.
type ways struct {
	plain func(s api.Surf, p api.V) api.V           // a face's that is not Bent
	far   func(p api.V) api.Iv                      // what sag is asked at
	steep func(s api.Surf, r2 api.Iv) api.Iv        // its slope
	bent  func(s api.Surf, p api.V, m api.Iv) api.V // a Bent one's
	unit  func(a api.V) api.V
}

// plainOf is the way of the chapter, its Z by z.
func plainOf(z func(s api.Surf, p api.V) api.Iv) func(s api.Surf, p api.V) api.V {
	return func(s api.Surf, p api.V) api.V {
		return box(iv.Neg(iv.Mul(s.Curve, p.X)), iv.Neg(iv.Mul(s.Curve, p.Y)), z(s, p))
	}
}

// bentOf is the way of the chapter, its X and Y by part.
func bentOf(part func(m, x api.Iv) api.Iv) func(s api.Surf, p api.V, m api.Iv) api.V {
	return func(_ api.Surf, p api.V, m api.Iv) api.V {
		return box(iv.Neg(part(m, p.X)), iv.Neg(part(m, p.Y)), whole(1))
	}
}

// written are the ways as the chapter writes them.
func written() ways {
	return ways{
		plain: plainOf(func(s api.Surf, p api.V) api.Iv {
			return iv.Sub(iv.Point(one), iv.Mul(s.Curve, iv.Mul(s.Conic, p.Z)))
		}),
		far: func(p api.V) api.Iv { return iv.Add(iv.Sqr(p.X), iv.Sqr(p.Y)) },
		steep: func(s api.Surf, r2 api.Iv) api.Iv {
			_, slope := sag.Of(s, r2)
			return slope
		},
		bent: bentOf(func(m, x api.Iv) api.Iv { return iv.Times(iv.Mul(m, x), 2) }),
		unit: vec.Unit,
	}
}

// said is what Of ought to answer, by the ways.
func (w ways) said(s api.Surf, p api.V) api.V {
	if s.Bent {
		return w.unit(w.bent(s, p, w.steep(s, w.far(p))))
	}
	return w.unit(w.plain(s, p))
}

// parts is f of each part.
func parts(a api.V, f func(a api.Iv) api.Iv) api.V {
	return box(f(a.X), f(a.Y), f(a.Z))
}

// plains are ways of a face that is not Bent that differ from the chapter's.
func plains() map[string]func(s api.Surf, p api.V) api.V {
	mul, sub := iv.Mul, iv.Sub
	w := written()
	m := map[string]func(s api.Surf, p api.V) api.V{
		"the other way": func(s api.Surf, p api.V) api.V { return parts(w.plain(s, p), iv.Neg) },
		"twice as long": func(s api.Surf, p api.V) api.V {
			return parts(w.plain(s, p), func(a api.Iv) api.Iv { return iv.Times(a, 2) })
		},
		"X and Y the other way": func(s api.Surf, p api.V) api.V {
			a := w.plain(s, p)
			return box(iv.Neg(a.X), iv.Neg(a.Y), a.Z)
		},
		"from the film on": func(s api.Surf, p api.V) api.V {
			p.Z = sub(p.Z, s.At)
			return w.plain(s, p)
		},
		"by sag's slope": func(s api.Surf, p api.V) api.V { return w.bent(s, p, w.steep(s, w.far(p))) },
		"by the radius": func(s api.Surf, p api.V) api.V {
			return box(iv.Neg(p.X), iv.Neg(p.Y), sub(iv.Div(whole(1), s.Curve), mul(s.Conic, p.Z)))
		},
		"terms though not Bent": func(s api.Surf, p api.V) api.V {
			s.Bent = true
			return w.bent(s, p, w.steep(s, w.far(p)))
		},
		"as deep as sag says": func(s api.Surf, p api.V) api.V {
			p.Z, _ = sag.Of(s, w.far(p))
			return w.plain(s, p)
		},
	}
	for name, z := range map[string]func(s api.Surf, p api.V) api.Iv{
		"Curve by Conic": func(s api.Surf, p api.V) api.Iv { return sub(whole(1), mul(mul(s.Curve, s.Conic), p.Z)) },
		"Curve by Z":     func(s api.Surf, p api.V) api.Iv { return sub(whole(1), mul(s.Conic, mul(s.Curve, p.Z))) },
		"1 and Conic less it": func(s api.Surf, p api.V) api.Iv {
			return sub(sub(whole(1), mul(s.Curve, p.Z)), mul(s.Curve, mul(sub(s.Conic, whole(1)), p.Z)))
		},
		"Conic as the text has it": func(s api.Surf, p api.V) api.Iv {
			return sub(whole(1), mul(s.Curve, mul(sub(s.Conic, whole(1)), p.Z)))
		},
		"without Conic": func(s api.Surf, p api.V) api.Iv { return sub(whole(1), mul(s.Curve, p.Z)) },
		"1 alone":       func(s api.Surf, p api.V) api.Iv { return whole(1) },
		"no 1":          func(s api.Surf, p api.V) api.Iv { return iv.Neg(mul(s.Curve, mul(s.Conic, p.Z))) },
		"a step for 1":  func(s api.Surf, p api.V) api.Iv { return sub(point(1), mul(s.Curve, mul(s.Conic, p.Z))) },
	} {
		m[name] = plainOf(z)
	}
	return m
}

// bents are ways of a Bent face that differ from the chapter's.
func bents() map[string]func(s api.Surf, p api.V, m api.Iv) api.V {
	mul, times := iv.Mul, iv.Times
	w := written()
	l := map[string]func(s api.Surf, p api.V, m api.Iv) api.V{
		"the other way": func(s api.Surf, p api.V, m api.Iv) api.V { return parts(w.bent(s, p, m), iv.Neg) },
		"half as long": func(s api.Surf, p api.V, m api.Iv) api.V {
			return box(iv.Neg(mul(m, p.X)), iv.Neg(mul(m, p.Y)), point(one/2))
		},
		"Z asked": func(s api.Surf, p api.V, m api.Iv) api.V {
			a := w.bent(s, p, m)
			return box(a.X, a.Y, iv.Sub(whole(1), mul(iv.Sub(p.Z, p.Z), whole(1))))
		},
		"Z as of a face without terms": func(s api.Surf, p api.V, m api.Iv) api.V {
			a := w.bent(s, p, m)
			return box(a.X, a.Y, w.plain(s, p).Z)
		},
		"as if it were not Bent": func(s api.Surf, p api.V, _ api.Iv) api.V { return w.plain(s, p) },
	}
	for name, part := range map[string]func(m, x api.Iv) api.Iv{
		"twice the slope":          func(m, x api.Iv) api.Iv { return mul(times(m, 2), x) },
		"twice the place":          func(m, x api.Iv) api.Iv { return mul(m, times(x, 2)) },
		"the slope once":           mul,
		"the slope four times":     func(m, x api.Iv) api.Iv { return times(mul(m, x), 4) },
		"the slope the other way":  func(m, x api.Iv) api.Iv { return times(mul(m, x), -2) },
		"the slope by the place's": func(m, x api.Iv) api.Iv { return times(mul(m, iv.Sqr(x)), 2) },
	} {
		l[name] = bentOf(part)
	}
	return l
}

// bare is the slope of a face without terms, though z be none.
func bare(s api.Surf, r2 api.Iv) api.Iv {
	q := iv.Root(iv.Sub(whole(1), iv.Mul(iv.Mul(s.Conic, iv.Sqr(s.Curve)), r2)))
	return iv.Div(s.Curve, iv.Times(q, 2))
}

// added is the slope that terms add, though z be none.
func added(s api.Surf, r2 api.Iv) api.Iv {
	u := iv.Div(r2, whole(1000))
	return iv.Div(iv.Mul(iv.Add(iv.Mul(iv.Times(s.A6, 3), u), iv.Times(s.A4, 2)), u), whole(1000))
}

// otherwise are ways that differ in one part from those of the chapter, in no call that is exact.
func otherwise() map[string]ways {
	m := map[string]ways{}
	add := func(name string, turn func(w *ways)) {
		w := written()
		turn(&w)
		m[name] = w
	}
	for name, f := range plains() {
		add("not Bent: "+name, func(w *ways) { w.plain = f })
	}
	for name, f := range bents() {
		add("Bent: "+name, func(w *ways) { w.bent = f })
	}
	for name, f := range map[string]func(p api.V) api.Iv{
		"products for squares":     func(p api.V) api.Iv { return iv.Add(iv.Mul(p.X, p.X), iv.Mul(p.Y, p.Y)) },
		"a product for x's square": func(p api.V) api.Iv { return iv.Add(iv.Mul(p.X, p.X), iv.Sqr(p.Y)) },
		"a product for y's square": func(p api.V) api.Iv { return iv.Add(iv.Sqr(p.X), iv.Mul(p.Y, p.Y)) },
		"z's square too":           vec.Len2,
		"x's square alone":         func(p api.V) api.Iv { return iv.Sqr(p.X) },
		"y's square alone":         func(p api.V) api.Iv { return iv.Sqr(p.Y) },
		"the distance":             func(p api.V) api.Iv { return iv.Root(iv.Add(iv.Sqr(p.X), iv.Sqr(p.Y))) },
	} {
		add("sag at "+name, func(w *ways) { w.far = f })
	}
	for name, f := range map[string]func(s api.Surf, r2 api.Iv) api.Iv{
		"how deep it is": func(s api.Surf, r2 api.Iv) api.Iv {
			z, _ := sag.Of(s, r2)
			return z
		},
		"without terms":      bare,
		"of the terms alone": added,
		"though z be none":   func(s api.Surf, r2 api.Iv) api.Iv { return iv.Add(bare(s, r2), added(s, r2)) },
	} {
		add("slope: "+name, func(w *ways) { w.steep = f })
	}
	for name, f := range map[string]func(a api.V) api.V{
		"by 1 and its length": func(a api.V) api.V { return vec.Scale(a, iv.Div(whole(1), iv.Root(vec.Len2(a)))) },
		"by a root of products": func(a api.V) api.V {
			long := iv.Root(vec.Dot(a, a))
			return parts(a, func(b api.Iv) api.Iv { return iv.Div(b, long) })
		},
		"as long as it is": func(a api.V) api.V { return a },
		"twice":            func(a api.V) api.V { return vec.Unit(vec.Unit(a)) },
		"all or nothing": func(a api.V) api.V {
			if a = vec.Unit(a); !vec.Right(a) {
				return nones
			}
			return a
		},
	} {
		add("unit: "+name, func(w *ways) { w.unit = f })
	}
	return m
}

// wrong are intervals that are not right: No, an end that is not In, Lo above Hi.
func wrong() []api.Iv {
	l := []api.Iv{
		none, {Lo: 1, Hi: 2, No: true}, {Lo: 0, Hi: one, No: true}, {Lo: one, Hi: one, No: true}, {Lo: most, Hi: most, No: true}, {Lo: 5, Hi: -5, No: true}, {Lo: math.MinInt, Hi: math.MaxInt, No: true},
		of(1, 0), of(0, -1), of(one+1, one), of(most, -most), of(most, most-1), of(math.MaxInt, math.MinInt), of(math.MinInt, math.MaxInt),
	}
	for _, end := range []int{most + 1, -most - 1, 1 << 32, -1 << 32, 1 << 62, math.MaxInt, math.MinInt, math.MinInt + 1} {
		l = append(l, of(end, end), of(min(0, end), max(0, end)), of(max(0, end), min(0, end)), of(-most, end), of(end, most))
	}
	return l
}

// moved is s with its vertex there.
func moved(s api.Surf, at api.Iv) api.Surf {
	s.At = at
	return s
}

// orders are the rows of TestOrder.
func orders() []row {
	deep := func(z int) api.V { return box(whole(0), whole(0), point(z)) }
	long := api.Surf{Curve: of(10869, 11150), Conic: of(110704, 110809), A4: of(12811473, 12813766), A6: of(196413982, 196415694)}
	flat := api.Surf{Curve: of(-11, 20), Conic: of(-48743, -48611), A4: of(-618997, -616874), A6: of(82326084, 82328650)}
	return []row{
		{"a long ball, about the axis", moved(long, of(539087, 539183)), box(of(-777, 6161), of(-516, 16219), of(-13491, -13410)), box(of(-993, 126), of(-2611, 84), of(65357, 65656))},
		{"a curve about 0", moved(flat, of(-246873, -246860)), box(of(183326, 183495), of(-39671, -39380), of(-35093, -35074)), box(of(-57, 32), of(-8, 14), of(65521, 65551))},
		{"a hollow with terms", moved(bent(of(-22485, -22476), of(110941, 111117), of(7581961, 7583867), of(118285802, 118287800)), of(-333224, -333029)), box(of(-104437, -104241), of(-112, 161), of(45543, 45612)), box(of(-40288, -39972), of(-45, 64), of(51756, 51869))},
		{"a hyperbola with terms, about the axis", moved(bent(of(26040, 26119), of(-119510, -119267), of(12079277, 12080046), of(179717457, 179717706)), of(194370, 194471)), box(of(-7135, 7992), of(-17178, 11171), of(-16095, -2010)), box(of(-3188, 2846), of(-4454, 6850), of(65103, 65536))},
		{"Conic by Z past the bounds", face(point(256), whole(2)), deep(8192*one + 1), nones}, {"Curve by Conic past them", face(whole(128), whole(256)), deep(256), at(0, 0, -1)}, {"Curve by Z past them", face(whole(16384), point(128)), at(0, 0, 2), at(0, 0, -1)},
		{"z past them", bent(whole(0), whole(1), point(192*one+1), whole(-8)), at(120, 40, 0), nones}, {"a part past them", face(whole(1), whole(1)), box(wholes(-65, 65), whole(0), point(one-256)), box(none, whole(0), of(3, 65536))},
	}
}

// TestOrder: the calls are done as they are written: at these inputs each other way tells other steps.
func TestOrder(t *testing.T) {
	rows := orders()
	checkRows(t, rows)
	for name, w := range otherwise() {
		same := 0
		for _, r := range rows {
			if w.said(r.s, r.p) == r.want {
				same++
			}
		}
		if same == len(rows) {
			t.Errorf("16.1: %q tells the same of every row", name)
		}
	}
}

// faces are planes, balls of either sign and other conics, with terms and without, numbers that are not right among them.
func faces() (l []api.Surf) {
	terms := []api.Iv{whole(0), whole(200), whole(-5000), of(-77, 78), wholes(300, 301), point(-one / 5), none, whole(8192)}
	for n, curve := range []api.Iv{whole(0), point(quarter), point(-quarter), of(1310, 1311), of(-1311, -1310), of(-7000, -6500), of(0, 900), of(-quarter, quarter), point(1), whole(2), whole(128), none, of(5, 4)} {
		for m, conic := range []api.Iv{whole(1), whole(0), whole(-1), point(-3 * one), point(one / 2), whole(2), of(-one, one), of(one-3, one+3), of(-most, most), none, point(most + 1)} {
			s := face(curve, conic)
			s.A4, s.A6 = terms[(n*3+m)%8], terms[(n+m*5+1)%8]
			l = append(l, s)
			for k := range 4 {
				l = append(l, bent(curve, conic, terms[(n+m+k*3)%8], terms[(n*5+m+k)%8]))
			}
		}
	}
	return l
}

// places are narrow and wide, on the axis and off it, numbers that are not right among them.
func places() (l []api.V) {
	sides := []api.Iv{whole(0), whole(2), whole(-3), point(12345), of(one, one+100), of(-300, 200), of(-2*one, -2*one+50), wholes(-1, 3), whole(40), whole(128), none, of(7, -7)}
	deeps := []api.Iv{whole(0), point(35120), whole(4), whole(-5), of(-3000, -2900), of(-one, one), whole(300), none, of(-most, most), point(-most - 1)}
	for n, x := range sides {
		for m, y := range sides {
			for k := range 3 {
				l = append(l, box(x, y, deeps[(n+m*3+k*4)%10]))
			}
		}
	}
	return l
}

// bit is 1 of a Bent face, else 0.
func bit(s api.Surf) int {
	if s.Bent {
		return 1
	}
	return 0
}

// TestWords: of all that can be handed in, right or not, the answer is by the words, and each time the same (R1, R4).
func TestWords(t *testing.T) {
	w := written()
	var said, not [2]int
	for _, s := range faces() {
		for _, p := range places() {
			want := w.said(s, p)
			for range 2 {
				if got := normal.Of(s, p); got != want {
					t.Errorf("16.1: Of(%+v, %+v) = %+v, not %+v", s, p, got, want)
				}
			}
			if vec.Right(want) {
				said[bit(s)]++
			} else {
				not[bit(s)]++
			}
		}
	}
	if min(said[0], said[1], not[0], not[1]) < 10000 {
		t.Errorf("16.1: only %d answers are units, and %d none", said, not)
	}
}

// TestNotBent: where Bent is false terms count for nothing, whatever they are.
func TestNotBent(t *testing.T) {
	all := append(wrong(), whole(0), whole(200), whole(-5000), of(-most, most))
	for _, s := range faces() {
		if s.Bent {
			continue
		}
		for n, p := range places() {
			if n%7 > 0 {
				continue
			}
			want := normal.Of(s, p)
			for k, a := range all {
				s.A4, s.A6 = a, all[(k*3+n)%len(all)]
				if got := normal.Of(s, p); got != want {
					t.Errorf("16.1: Of(%+v, %+v) = %+v, not %+v", s, p, got, want)
				}
			}
		}
	}
}

// TestOtherParts: p is from the vertex on: At changes nothing; nor do Stop, Open2 and Ratio.
func TestOtherParts(t *testing.T) {
	others := append(wrong(), whole(0), whole(5), whole(-40), of(-one, one), of(-most, most))
	for _, s := range []api.Surf{face(whole(0), whole(1)), face(point(quarter), whole(1)), face(of(-1311, -1310), whole(-3)), bent(point(quarter), whole(0), whole(200), whole(-5000)), bent(whole(0), whole(1), whole(3), whole(0)), face(none, whole(1))} {
		for _, p := range []api.V{at(0, 0, 0), at(4, 0, 4), box(of(one, 2*one), of(-one, one), of(0, one)), at(2, -3, -5), box(none, whole(0), whole(0))} {
			want := normal.Of(s, p)
			stop := s
			stop.Stop = true
			checkTurned(t, []row{{"of a stop", stop, p, want}})
			for k, a := range others {
				for n := range 3 {
					other := s
					*[]*api.Iv{&other.At, &other.Open2, &other.Ratio}[n] = a
					checkTurned(t, []row{{"with another part", other, p, want}})
				}
				all := s
				all.Stop, all.At, all.Open2, all.Ratio = k%2 == 0, a, others[(k+1)%len(others)], others[(k*3+2)%len(others)]
				checkTurned(t, []row{{"with other parts", all, p, want}})
			}
		}
	}
}

// numbersOf are s's and p's numbers, one by one.
func numbersOf(s *api.Surf, p *api.V) [7]*api.Iv {
	return [7]*api.Iv{&s.Curve, &s.Conic, &p.X, &p.Y, &p.Z, &s.A4, &s.A6}
}

// TestNotRight: of a number of the face or of the place that is not right, each in its turn, there are three Nones, though it would count for 0; of Z where it is not Bent, of A4 and A6 where it is.
func TestNotRight(t *testing.T) {
	faces := []api.Surf{face(whole(0), whole(1)), face(whole(0), whole(0)), face(point(quarter), whole(1)), face(of(-1311, -1310), whole(0)), bent(whole(0), whole(0), whole(0), whole(0)), bent(point(quarter), whole(1), whole(200), whole(-5000)), bent(of(-1311, -1310), whole(-3), whole(0), whole(3))}
	for _, bad := range wrong() {
		for _, s := range faces {
			for _, p := range []api.V{at(0, 0, 0), at(2, -3, 0), box(of(one, one+9), of(-5, 5), of(0, 99))} {
				was := normal.Of(s, p)
				if !vec.Right(was) {
					t.Errorf("16.1: Of(%+v, %+v) = %+v", s, p, was)
				}
				for k := range 7 {
					other, place := s, p
					*numbersOf(&other, &place)[k] = bad
					want := nones
					if k == 4 && s.Bent || k > 4 && !s.Bent {
						want = was
					}
					checkTurned(t, []row{{"a number that is not right", other, place, want}})
				}
			}
		}
		all := box(bad, bad, bad)
		checkTurned(t, []row{
			{"none that is right", api.Surf{Curve: bad, Conic: bad, A4: bad, A6: bad}, all, nones}, {"none that is right, Bent", api.Surf{Bent: true, Curve: bad, Conic: bad, A4: bad, A6: bad}, all, nones},
			{"no place that is right", faces[0], all, nones}, {"no place that is right, Bent", faces[4], all, nones}, {"no face that is right", api.Surf{Curve: bad, Conic: bad}, at(0, 0, 0), nones}, {"no terms that are right", bent(whole(0), whole(1), bad, bad), at(0, 0, 0), nones},
		})
	}
}

// lesser are some intervals that lie in a.
func lesser(a api.Iv) [7]api.Iv {
	n := within(a)
	return [7]api.Iv{a, point(n[0]), point(n[1]), point(n[3]), of(n[0], n[2]), of(n[1], n[3]), of(n[1], n[2])}
}

// lie are faces and places that lie in s and p: some in one number of the place alone, some in all of it, some in all of both.
func lie(s api.Surf, p api.V) (l []row) {
	for k := range 7 {
		for n := 2; n < 5; n++ {
			inner, narrow := s, p
			*numbersOf(&inner, &narrow)[n] = lesser(*numbersOf(&s, &p)[n])[k]
			l = append(l, row{s: inner, p: narrow})
		}
		inner, narrow := s, p
		for n := 2; n < 5; n++ {
			*numbersOf(&inner, &narrow)[n] = lesser(*numbersOf(&s, &p)[n])[(k*n+1)%7]
		}
		l = append(l, row{s: inner, p: narrow})
		for n := range 7 {
			*numbersOf(&inner, &narrow)[n] = lesser(*numbersOf(&s, &p)[n])[(k+n*2+1)%7]
		}
		l = append(l, row{s: inner, p: narrow})
	}
	return l
}

// boxes are faces and places that are right, and wide in their numbers.
func boxes() (l []row) {
	terms := []api.Iv{of(-77, 78), wholes(-1, 2), whole(200), wholes(300, 301), wholes(-90, -80), whole(0), wholes(-5000, -4990)}
	wide := []api.V{box(of(one, one+100), of(-2*one, -2*one+50), of(0, 33)), box(wholes(3, 5), of(-one, 2*one), wholes(0, 1)), box(of(-30000, 20000), of(-10, 50000), of(-3000, 2000)), box(wholes(5, 6), wholes(-1, 1), of(-9*one, -8*one)), box(of(0, 40), wholes(20, 22), wholes(3, 4)), box(of(-90, 30), of(-20, 50), of(4*one-300, 4*one+9000)), box(whole(2), of(0, 900), wholes(-5, 5)), box(wholes(-66, 60), of(0, 9), of(3*one+60000, 4*one-900))}
	for n, curve := range []api.Iv{whole(0), of(1310, 1311), of(-7000, -6500), of(0, 900), of(-3, 2), of(15000, 16000), point(quarter), point(-quarter), of(-900, 900), of(one-9, one)} {
		for m, conic := range []api.Iv{whole(1), of(one-3, one+300), of(-one, one), wholes(-3, -2), of(0, one/2), of(-1, 0), wholes(1, 3), whole(0)} {
			for i, p := range wide {
				l = append(l, row{s: face(curve, conic), p: p}, row{s: bent(curve, conic, terms[(n+m+i)%7], terms[(n+m*3+i*2)%7]), p: p})
			}
		}
	}
	return l
}

// TestLess: of less the answer lies in the larger one's, part by part (W1).
func TestLess(t *testing.T) {
	var said, surer [2]int
	for _, r := range boxes() {
		more := normal.Of(r.s, r.p)
		for _, inner := range lie(r.s, r.p) {
			got := normal.Of(inner.s, inner.p)
			for k, part := range [3]api.Iv{more.X, more.Y, more.Z} {
				narrow := [3]api.Iv{got.X, got.Y, got.Z}[k]
				if part.No {
					if iv.Right(narrow) {
						surer[bit(r.s)]++
					}
					continue
				}
				said[bit(r.s)]++
				if !iv.Inside(narrow, part) {
					t.Errorf("W1: part %d of Of(%+v, %+v), %+v, is not in that of more, %+v, %+v: %+v", k, inner.s, inner.p, got, r.s, r.p, more)
				}
			}
		}
	}
	// Nones hold anything: the test is one only while much is said.
	if min(said[0], said[1]) < 30000 || min(surer[0], surer[1]) < 500 {
		t.Errorf("W1: only %d parts say something, and %d of less alone", said, surer)
	}
}

// TestHeld: of exact faces and places in a box the way across, 1 long, lies in its answer (W1).
func TestHeld(t *testing.T) {
	var said [2]int
	for _, r := range boxes() {
		got := normal.Of(r.s, r.p)
		for _, n := range members(r.s, r.p) {
			checkHeld(t, got, n)
			if got != nones {
				said[bit(r.s)]++
			}
		}
	}
	if min(said[0], said[1]) < 1000 {
		t.Errorf("W1: only %d ways were held", said)
	}
}

// TestTurned: at places that are turned by quarters, and mirrored, the answer is turned, and mirrored (W3).
func TestTurned(t *testing.T) {
	for _, r := range boxes() {
		r.what, r.want = "turned", normal.Of(r.s, r.p)
		checkTurned(t, []row{r})
	}
}

// enclosed is what a lies in.
func enclosed(a [2]*big.Rat) api.Iv {
	floor := func(r *big.Rat) int {
		n := new(big.Int).Mul(r.Num(), big.NewInt(one))
		return int(new(big.Int).Div(n, r.Denom()).Int64())
	}
	return of(min(floor(a[0]), floor(a[1])), max(floor(a[0]), floor(a[1]))+1)
}

// TestAcross: to a face's own ways along it, both, it is upright: from place to place near by the face rises as it says; and it goes to higher z, and is 1 long.
func TestAcross(t *testing.T) {
	near := rat(1, 1<<20)
	for n, s := range []api.Surf{face(whole(0), whole(1)), face(point(quarter), whole(1)), face(point(-quarter), whole(1)), face(point(quarter), whole(0)), face(point(-1311), point(-3*one)), face(point(9000), point(one/2)), bent(whole(0), whole(1), whole(200), whole(-500)), bent(point(quarter), whole(1), whole(200), whole(-5000)), bent(point(-1311), whole(-3), whole(-90), whole(60))} {
		for k := range 25 {
			x, y := rat((k%5)*29000-60000+n, one), rat((k/5)*30000-61000-n*n, one)
			on := numbers{s.Bent, rat(s.Curve.Lo, one), rat(s.Conic.Lo, one), rat(s.A4.Lo, one), rat(s.A6.Lo, one), [3]*big.Rat{}}
			p := box(enclosed([2]*big.Rat{x, x}), enclosed([2]*big.Rat{y, y}), enclosed(on.depth(x, y)))
			got := normal.Of(s, p)
			if !vec.Right(got) || got.Z.Lo <= 0 || !iv.Has(vec.Len2(got), one) {
				t.Errorf("16.1: Of(%+v, %+v) = %+v", s, p, got)
				continue
			}
			inX := [2][2]*big.Rat{on.depth(total(x, less(near)), y), on.depth(total(x, near), y)}
			inY := [2][2]*big.Rat{on.depth(x, total(y, less(near))), on.depth(x, total(y, near))}
			for m, ends := range [2][2][2]*big.Rat{inX, inY} {
				rise := total(ends[1][0], less(ends[0][0]))
				rise.Quo(rise, total(near, near))
				part := [2]api.Iv{got.X, got.Y}[m]
				// A millionth for the face's being no plane, even so near by.
				tiny := rat(1, 1000000)
				a, b := product(rat(got.Z.Lo, one), rise), product(rat(got.Z.Hi, one), rise)
				if a.Cmp(b) > 0 {
					a, b = b, a
				}
				if total(rat(part.Lo, one), a, less(tiny)).Sign() > 0 || total(rat(part.Hi, one), b, tiny).Sign() < 0 {
					t.Errorf("16.1: Of(%+v, %+v) = %+v, where part %d rises by %v", s, p, got, m, rise)
				}
			}
		}
	}
}

// TestToMiddle: from where a ray meets a ball the way across, as long as its radius, leads to its middle; a hollow one's the other way.
func TestToMiddle(t *testing.T) {
	for _, side := range []int{1, -1} {
		s := face(point(side*quarter), whole(1))
		s.At = whole(10)
		for k := range 49 {
			o := box(point((k%7-3)*61000+k), point((k/7-3)*60001-k), whole(0))
			_, p, is := hit.Of(s, api.Ray{O: o, D: at(0, 0, 1)})
			if is != api.Yes {
				continue
			}
			got := normal.Of(s, p)
			if middle := vec.Add(p, vec.Scale(got, whole(side*4))); !vec.Inside(at(0, 0, side*4), middle) || middle.Z.Hi-middle.Z.Lo > 900 {
				t.Errorf("16.1: from %+v by %+v to %+v", p, got, middle)
			}
		}
	}
}

// TestAlike: of a face that is Bent by terms of 0 it is as of the one that is not: both have what is exact.
func TestAlike(t *testing.T) {
	for _, curve := range []int{0, quarter, -quarter, 1311, -9000} {
		for _, conic := range []int{one, 0, -one, -3 * one, one / 2} {
			s := face(point(curve), point(conic))
			other := s
			other.Bent = true
			for k := range 25 {
				_, p, is := hit.Of(s, api.Ray{O: box(point((k%5-2)*60000), point((k/5-2)*59000), whole(-9)), D: at(0, 0, 1)})
				a, b := normal.Of(s, p), normal.Of(other, p)
				if is != api.Yes || !vec.Right(a) || !vec.Right(b) || !iv.Right(iv.Meet(a.X, b.X)) || !iv.Right(iv.Meet(a.Y, b.Y)) || !iv.Right(iv.Meet(a.Z, b.Z)) {
					t.Errorf("16.1: of %+v at %+v: %+v, and %+v by terms of 0", s, p, a, b)
				}
			}
		}
	}
}

// TestOfLens: at places where rays meet the faces of a lens that was read exact ways across lie in the answers (W1), which are narrow.
func TestOfLens(t *testing.T) {
	l, _, e := lens.Read("lens a 40\nface -50.3 10 2 air conic -0.5 a4 0.7 a6 -1.9\nface 17.1 5 2 air\nface 0 5 2 air a4 -3.3\nstop 4 1\nface 31.7 5 2 air conic -1\nface -9.9 5 2 air conic 0.31 a6 12.34\n", nil)
	if e != api.OK {
		t.Fatalf("12.1: %d", e)
	}
	s, e := system.Build(l, nil, whole(1))
	if e != api.OK {
		t.Fatalf("13.1: %d", e)
	}
	for k, surf := range s.Surfs {
		for n := range 60 {
			_, p, is := hit.Of(surf, api.Ray{O: box(point(n*997-30000), point(20000-n*31), whole(0)), D: box(point(n*50-1000), point(1500-n*43), point(65500))})
			got := normal.Of(surf, p)
			if is != api.Yes || !vec.Right(got) || max(got.X.Hi-got.X.Lo, got.Y.Hi-got.Y.Lo, got.Z.Hi-got.Z.Lo) > one/8 {
				t.Errorf("16.1: of face %d at %+v only %+v", k, p, got)
			}
			for _, n := range members(surf, p) {
				checkHeld(t, got, n)
			}
		}
	}
}

// TestNothingPanics: whatever is handed in; a None has Lo and Hi 0 (R1, R3).
func TestNothingPanics(t *testing.T) {
	ints := []int{math.MinInt, -1 << 32, -most - 1, -most, -1, 0, 1, 256, one, most, most + 1, 1 << 32, math.MaxInt}
	for n, a := range ints {
		for m, b := range ints {
			for k := range 96 {
				x, y := api.Iv{Lo: a, Hi: b, No: k%16 == 15}, of(ints[(n+k)%13], ints[(m+k*3)%13])
				l := [7]api.Iv{x, y, whole(0), whole(1), of(a, a), of(b, b), point(quarter)}
				s := api.Surf{Stop: k%2 == 0, Bent: k%4 < 2, At: x, Open2: y, Ratio: x}
				var p api.V
				for i, number := range numbersOf(&s, &p) {
					*number = l[(k*(i+1)/3+i)%7]
				}
				got := normal.Of(s, p)
				for _, part := range [3]api.Iv{got.X, got.Y, got.Z} {
					if part != none && !iv.Right(part) {
						t.Errorf("16.1: Of(%+v, %+v) = %+v: neither right nor None", s, p, got)
					}
				}
				if again := normal.Of(s, p); again != got {
					t.Errorf("R4: Of(%+v, %+v) = %+v, then %+v", s, p, got, again)
				}
			}
		}
	}
	if got := normal.Of(api.Surf{}, api.V{}); got != at(0, 0, 1) {
		t.Errorf("16.1: of a face and a place whose numbers are 0: %+v", got)
	}
}

// TestAsOften: the same is answered however often it is asked, whatever was asked between, and nothing that is handed in is changed (R2, R4).
func TestAsOften(t *testing.T) {
	rows := []row{
		{"a ball", face(point(quarter), whole(1)), at(12, 0, -12), box(of(-39322, -39321), whole(0), of(52428, 52429))}, {"A4", bent(whole(0), whole(1), whole(125), whole(0)), at(30, 10, 4), box(of(-62049, -62048), of(-20683, -20682), of(4136, 4137))},
		{"a ball's middle", face(point(quarter), whole(1)), at(0, 0, 4), nones}, {"a number that is none", bent(none, whole(1), whole(1), none), at(0, 0, 0), nones},
	}
	kept := append([]row(nil), rows...)
	for range 3 {
		for k := range rows {
			checkRows(t, rows[k:k+1])
			for _, r := range rows {
				normal.Of(r.s, r.p)
				normal.Of(r.s, nones)
			}
			checkRows(t, rows[k:k+1])
		}
	}
	for k := range rows {
		if rows[k] != kept[k] {
			t.Errorf("R2: %+v was changed", kept[k])
		}
	}
}

// FuzzOf: nothing panics, and each answer is as the document says.
func FuzzOf(f *testing.F) {
	f.Add(quarter, one, 3*one, -one, 0, 0, 0, 0, false)
	f.Add(-1311, 0, 3*one, -one, 99, 300*one, -7*one, 7, true)
	f.Add(0, -one, math.MinInt, math.MaxInt, most, one, 5, 1, true)
	f.Fuzz(func(t *testing.T, curve, conic, x, y, z, a4, a6, wide int, isBent bool) {
		s := api.Surf{Bent: isBent}
		var p api.V
		for k, number := range numbersOf(&s, &p) {
			lo := []int{curve, conic, x, y, z, a4, a6}[k]
			*number = of(lo, lo+wide>>k)
		}
		got := normal.Of(s, p)
		if want := written().said(s, p); got != want {
			t.Errorf("16.1: Of(%+v, %+v) = %+v, not %+v", s, p, got, want)
		}
		for _, n := range members(s, p) {
			checkHeld(t, got, n)
		}
	})
}

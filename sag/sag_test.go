package sag_test

import (
	"math"
	"math/big"
	"testing"

	"meniscus/api"
	"meniscus/iv"
	"meniscus/lens"
	"meniscus/poly"
	"meniscus/sag"
	"meniscus/system"
)

const (
	one  = api.One
	most = api.Most
)

var none = api.Iv{No: true}

func of(lo, hi int) api.Iv {
	return api.Iv{Lo: lo, Hi: hi}
}

func point(n int) api.Iv {
	return of(n, n)
}

// whole is a point of a whole number: One steps to each 1.
func whole(n int) api.Iv {
	return point(n * one)
}

// face is one without terms: its curve, and 1 and its conic constant.
func face(curve, conic api.Iv) api.Surf {
	return api.Surf{Curve: curve, Conic: conic, A4: whole(0), A6: whole(0)}
}

// bent is one with terms.
func bent(curve, conic, a4, a6 api.Iv) api.Surf {
	return api.Surf{Bent: true, Curve: curve, Conic: conic, A4: a4, A6: a6}
}

// told is what Of answers.
type told struct {
	z, slope api.Iv
}

var nones = told{none, none}

func tell(s api.Surf, r2 api.Iv) told {
	z, slope := sag.Of(s, r2)
	return told{z, slope}
}

// one row of a table: what is asked, and what is to be answered.
type row struct {
	what string
	s    api.Surf
	r2   api.Iv
	want told
}

func checkRows(t *testing.T, rows []row) {
	t.Helper()
	for _, r := range rows {
		if got := tell(r.s, r.r2); got != r.want {
			t.Errorf("14.1: %s: Of(%+v, %+v) = %+v, not %+v", r.what, r.s, r.r2, got, r.want)
		}
	}
}

// against is -a, its ends as they are where it is none, or not right.
func against(a api.Iv) api.Iv {
	if a.No || a.Lo > a.Hi {
		return a
	}
	return of(-a.Hi, -a.Lo)
}

// otherWay is the rows of the faces that are turned about: each depth and slope against what it was.
func otherWay(rows []row) []row {
	var l []row
	for _, r := range rows {
		r.what += ", the other way"
		r.s.Curve, r.s.A4, r.s.A6 = against(r.s.Curve), against(r.s.A4), against(r.s.A6)
		r.want = told{against(r.want.z), against(r.want.slope)}
		l = append(l, r)
	}
	return l
}

// checkBoth holds the rows, and those of the faces that are turned about.
func checkBoth(t *testing.T, rows []row) {
	t.Helper()
	checkRows(t, rows)
	checkRows(t, otherWay(rows))
}

// wrong are intervals that are not right: No, an end that is not In, Lo above Hi.
func wrong() []api.Iv {
	l := []api.Iv{
		none, {Lo: 1, Hi: 2, No: true}, {Lo: 0, Hi: one, No: true}, {Lo: one, Hi: one, No: true}, {Lo: most, Hi: most, No: true}, {Lo: 5, Hi: -5, No: true}, {Lo: math.MinInt, Hi: math.MaxInt, No: true},
		of(1, 0), of(0, -1), of(one+1, one), of(most, -most), of(most, most-1), of(math.MaxInt, math.MinInt), of(math.MinInt, math.MaxInt),
	}
	for _, end := range []int{most + 1, -most - 1, 1 << 32, -1 << 32, 1 << 62, math.MaxInt, math.MinInt, math.MinInt + 1} {
		l = append(l, of(end, end), of(min(0, end), max(0, end)), of(max(0, end), min(0, end)), of(-most, end), of(end, most))
	}
	return l
}

// curves are of planes, balls and cones of either sign, narrow and wide, and some at the bounds.
func curves() []api.Iv {
	return []api.Iv{
		whole(0), point(one / 4), point(-one / 4), of(1310, 1311), of(-1311, -1310), of(21845, 21846), of(-16384, 16384), of(0, 900), of(-7000, -6500), point(1), of(-3, 2), whole(2), whole(128), whole(-128), point(128*one + 1), of(-most, most), point(most),
	}
}

func conics() []api.Iv {
	return []api.Iv{
		whole(1), whole(0), whole(-3), point(-one / 2), point(one / 2), whole(2), of(-one, one), of(one-3, one+3), point(4), point(-1), of(-70*one, -69*one), point(65537), of(-most, most), point(-most),
	}
}

func squares() []api.Iv {
	return []api.Iv{
		whole(0), whole(1), whole(7), whole(16), of(0, 9*one), of(4*one, 5*one), of(-one, one), whole(-5), point(1), point(65535), of(100*one, 101*one), whole(1000), of(1600*one, 2000*one), whole(8192), of(-1000*one, -900*one), point(most), of(-most, most), of(0, most), point(-most),
	}
}

// terms are some of A4, and of A6.
func terms() []api.Iv {
	return []api.Iv{whole(0), whole(2), whole(-3), point(1), of(-77, 78), of(-one, 2*one), of(300*one, 301*one), whole(8192), point(-8192*one - 1), point(most / 3), of(-most, most)}
}

// TestExample: the example of chapter 14.
func TestExample(t *testing.T) {
	for _, r2 := range []api.Iv{whole(0), whole(1), whole(100), of(0, 100*one), of(25*one, 36*one)} {
		checkRows(t, []row{{"a plane", face(whole(0), whole(1)), r2, told{whole(0), whole(0)}}})
	}
}

// TestPlane: it is nowhere deep, nor steep, whatever its Conic, as far out as there are numbers, and at squares below 0.
func TestPlane(t *testing.T) {
	for _, conic := range conics() {
		for _, r2 := range squares() {
			checkRows(t, []row{{"a plane", face(whole(0), conic), r2, told{whole(0), whole(0)}}})
		}
	}
}

// TestBall: a Conic of 1; of a radius of 4 it is told up to where it is 4 deep, and there upright.
func TestBall(t *testing.T) {
	left, right := face(point(one/4), whole(1)), face(point(-one/4), whole(1))
	checkRows(t, []row{
		{"a ball, at its vertex", left, whole(0), told{whole(0), point(8192)}}, {"a ball, near its vertex", left, point(1), told{of(0, 1), of(8192, 8193)}}, {"a ball, at 1", left, whole(1), told{of(8324, 8325), of(8460, 8461)}},
		{"a ball, at 7", left, whole(7), told{whole(1), of(10922, 10923)}}, {"a ball, at 12", left, whole(12), told{whole(2), point(16384)}}, {"a ball, near its side", left, point(1048560), told{point(261120), whole(32)}},
		{"a ball, from 0", left, of(0, 9*one), told{of(0, 88753), of(8192, 12386)}}, {"a ball, on a ring", left, of(4*one, 5*one), told{of(35120, 44786), of(9459, 9881)}},
		{"a ball, below 0", left, whole(-5), told{of(-38180, -38179), of(7150, 7151)}}, {"a ball, far below 0", left, whole(-5000), told{of(-4379363, -4379359), of(462, 463)}}, {"a ball, below 0, to 0", left, of(-9*one, 0), told{of(-73728, 0), of(6553, 8192)}}, {"a ball, about 0", left, of(-one, one), told{of(-8325, 8325), of(7947, 8461)}},
		{"a ball of -4, at its vertex", right, whole(0), told{whole(0), point(-8192)}}, {"a ball of -4, near its vertex", right, point(1), told{of(-1, 0), of(-8193, -8192)}}, {"a ball of -4, at 7", right, whole(7), told{whole(-1), of(-10923, -10922)}}, {"a ball of -4, at 12", right, whole(12), told{whole(-2), point(-16384)}},
		{"a ball of -4, on a ring", right, of(4*one, 5*one), told{of(-44786, -35120), of(-9881, -9459)}}, {"a ball of -4, below 0", right, whole(-5), told{of(38179, 38180), of(-7151, -7150)}}, {"a ball of -4, about 0", right, of(-one, one), told{of(-8325, 8325), of(-8461, -7947)}},
	})
	checkBoth(t, []row{
		{"a ball of 50, at its vertex", face(of(1310, 1311), whole(1)), whole(0), told{whole(0), of(655, 656)}}, {"a ball of 50, at 100", face(of(1310, 1311), whole(1)), whole(100), told{of(66162, 66240), of(668, 670)}}, {"a ball of 50, on a ring", face(of(1310, 1311), whole(1)), of(81*one, 100*one), told{of(53487, 66240), of(665, 670)}},
		{"a curve about 0", face(of(-16384, 16384), whole(1)), whole(7), told{of(-65536, 65536), of(-10923, 10923)}}, {"a curve from 0", face(of(0, 16384), whole(1)), whole(7), told{of(0, 65536), of(0, 10923)}},
		{"a ball, at its side", left, whole(16), nones}, {"a ball, up to its side", left, of(12*one, 16*one), nones}, {"a ball, from its side", left, of(16*one, 17*one), nones}, {"a ball, a step past its side", left, point(16*one + 16), nones}, {"a ball, past its side", left, whole(17), nones}, {"a ball, on either side of its side", left, of(15*one, 17*one), nones}, {"a ball, from 0 past its side", left, of(0, 17*one), nones},
	})
}

// TestCone: a Conic below 0, of 0, above 0, and some that may be either.
func TestCone(t *testing.T) {
	quarter := point(one / 4)
	below, half, flat, long, wide := face(quarter, whole(-3)), face(quarter, point(-one/2)), face(quarter, whole(0)), face(quarter, point(one/2)), face(quarter, whole(2))
	checkBoth(t, []row{
		{"Conic of -3", below, whole(0), told{whole(0), point(8192)}}, {"Conic of -3", below, whole(7), told{of(45498, 45499), of(5387, 5388)}}, {"Conic of -3", below, whole(16), told{of(87381, 87382), point(4096)}}, {"Conic of -3", below, of(4*one, 5*one), told{of(27398, 35267), of(5885, 6193)}}, {"Conic of -3", below, of(-one, 2*one), told{of(-8617, 17234), of(6986, 9089)}}, {"Conic of -3", below, whole(-5), told{whole(-1), point(32768)}}, {"Conic of -3", below, whole(-16), nones},
		{"Conic of -1/2", half, whole(7), told{of(54510, 54511), of(7420, 7421)}}, {"Conic of -1/2", half, of(4*one, 5*one), told{of(31579, 39755), of(7618, 7724)}}, {"Conic of -1/2", half, whole(-16), told{of(-153562, -153560), of(11585, 11586)}},
		{"Conic of 0", flat, whole(0), told{whole(0), point(8192)}}, {"Conic of 0", flat, whole(7), told{point(57344), point(8192)}}, {"Conic of 0", flat, whole(16), told{whole(2), point(8192)}}, {"Conic of 0", flat, of(4*one, 5*one), told{of(32768, 40960), point(8192)}}, {"Conic of 0", flat, whole(-5), told{point(-40960), point(8192)}}, {"Conic of 0", flat, of(-one, 2*one), told{of(-8192, 16384), point(8192)}}, {"Conic of 0", flat, whole(5000), told{whole(625), point(8192)}},
		{"Conic of 1/2", long, whole(7), told{of(60878, 60879), of(9268, 9269)}}, {"Conic of 1/2", long, whole(16), told{of(153560, 153562), of(11585, 11586)}}, {"Conic of 1/2", long, of(4*one, 5*one), told{of(33861, 42699), of(8757, 8919)}}, {"Conic of 1/2", long, whole(-5), told{of(-39475, -39473), of(7618, 7619)}}, {"Conic of 1/2", long, whole(32), nones},
		{"Conic of 2", wide, whole(0), told{whole(0), point(8192)}}, {"Conic of 2", wide, whole(7), told{of(84730, 84732), of(23169, 23171)}}, {"Conic of 2", wide, of(4*one, 5*one), told{of(38390, 50808), of(11585, 13378)}}, {"Conic of 2", wide, whole(-5), told{of(-36013, -36012), of(6426, 6427)}}, {"Conic of 2", wide, whole(8), nones},
		{"Conic of -1 to 1", face(quarter, of(-one, one)), whole(7), told{of(52155, 65536), of(6832, 10923)}}, {"Conic of -1 to 1", face(quarter, of(-one, one)), of(-one, 2*one), told{of(-8466, 16931), of(7723, 8758)}}, {"Conic of -1 to 1", face(quarter, of(-one, one)), whole(16), nones},
		{"Conic of 0 to 1", face(quarter, of(0, one)), of(4*one, 5*one), told{of(32768, 44786), of(8192, 9881)}}, {"Conic of -1 to 0", face(quarter, of(-one, 0)), whole(16), told{of(108583, 131072), of(5792, 8192)}},
	})
	checkRows(t, []row{
		{"Conic of -3, of -4", face(point(-one/4), whole(-3)), whole(7), told{of(-45499, -45498), of(-5388, -5387)}}, {"Conic of 0, of -4", face(point(-one/4), whole(0)), whole(7), told{point(-57344), point(-8192)}}, {"Conic of 2, of -4", face(point(-one/4), whole(2)), of(4*one, 5*one), told{of(-50808, -38390), of(-13378, -11585)}},
	})
}

// TestTerms: A4 alone, A6 alone, both, of either sign, by themselves, as those of a plane are.
func TestTerms(t *testing.T) {
	with := func(a4, a6 api.Iv) api.Surf { return bent(whole(0), whole(1), a4, a6) }
	four, six, both, unlike := with(whole(2), whole(0)), with(whole(0), whole(3)), with(whole(2), whole(3)), with(whole(2), whole(-3))
	broad := with(of(-one, 2*one), of(-3*one, one))
	checkBoth(t, []row{
		{"A4", four, whole(0), told{whole(0), whole(0)}}, {"A4", four, whole(500), told{point(32768), of(131, 132)}}, {"A4", four, whole(2000), told{whole(8), of(524, 525)}}, {"A4", four, whole(-1000), told{whole(2), of(-263, -262)}},
		{"A4", four, of(0, 1000*one), told{of(0, 131072), of(0, 263)}}, {"A4", four, of(1000*one, 2000*one), told{of(131072, 524288), of(262, 525)}}, {"A4", four, of(-1000*one, 2000*one), told{of(-262144, 524288), of(-263, 525)}},
		{"A6", six, whole(0), told{whole(0), whole(0)}}, {"A6", six, whole(500), told{point(24576), of(147, 148)}}, {"A6", six, whole(2000), told{whole(24), of(2359, 2360)}}, {"A6", six, whole(-1000), told{whole(-3), of(589, 590)}},
		{"A6", six, of(0, 1000*one), told{of(0, 196608), of(0, 590)}}, {"A6", six, of(1000*one, 2000*one), told{of(196608, 1572864), of(589, 2360)}}, {"A6", six, of(-1000*one, 2000*one), told{of(-786432, 1572864), of(-1180, 2360)}},
		{"both", both, whole(0), told{whole(0), whole(0)}}, {"both", both, whole(500), told{point(57344), of(278, 279)}}, {"both", both, whole(2000), told{whole(32), of(2883, 2884)}}, {"both", both, whole(-1000), told{whole(-1), of(327, 328)}}, {"both", both, of(1000*one, 2000*one), told{of(327680, 2097152), of(851, 2884)}},
		{"both, unlike", unlike, whole(500), told{point(8192), of(-17, -16)}}, {"both, unlike", unlike, whole(2000), told{whole(-16), of(-1836, -1835)}}, {"both, unlike", unlike, of(1000*one, 2000*one), told{of(-1048576, -65536), of(-1836, -327)}}, {"both, unlike", unlike, of(-1000*one, 2000*one), told{of(-1048576, 1310720), of(-1836, 1704)}},
		{"both, wide", broad, whole(0), told{whole(0), whole(0)}}, {"both, wide", broad, whole(2000), told{of(-1835008, 1048576), of(-2622, 1311)}}, {"both, wide", broad, of(-1000*one, 2000*one), told{of(-1835008, 1310720), of(-2622, 1704)}},
	})
	checkRows(t, []row{
		{"A4 below 0", with(whole(-2), whole(0)), whole(2000), told{whole(-8), of(-525, -524)}}, {"A6 below 0", with(whole(0), whole(-3)), whole(2000), told{whole(-24), of(-2360, -2359)}}, {"both below 0", with(whole(-2), whole(-3)), whole(2000), told{whole(-32), of(-2884, -2883)}}, {"A4 below 0, A6 not", with(whole(-2), whole(3)), of(1000*one, 2000*one), told{of(65536, 1048576), of(327, 1836)}},
	})
}

// TestAdded: they are added to what a ball and a cone have without them.
func TestAdded(t *testing.T) {
	ball := func(a4, a6 int) api.Surf { return bent(point(one/4), whole(1), whole(a4), whole(a6)) }
	cone := func(a4, a6 int) api.Surf { return bent(point(-one/4), whole(0), whole(a4), whole(a6)) }
	at7, at16, ring := whole(7), whole(16), of(4*one, 5*one)
	checkBoth(t, []row{
		{"a ball, A4", ball(200, 0), at7, told{of(66176, 66179), of(11105, 11107)}}, {"a ball, A4", ball(200, 0), ring, told{of(35329, 45115), of(9563, 10013)}}, {"a ball, A4 below 0", ball(-200, 0), at7, told{of(64893, 64896), of(10738, 10740)}},
		{"a ball, A6", ball(0, 5000), at7, told{of(65647, 65649), of(10970, 10972)}}, {"a ball, A6", ball(0, 5000), ring, told{of(35140, 44828), of(9474, 9906)}}, {"a ball, A6 below 0", ball(0, -5000), at7, told{of(65423, 65425), of(10873, 10875)}},
		{"a ball, both", ball(200, 5000), at7, told{of(66287, 66292), of(11153, 11155)}}, {"a ball, both", ball(200, 5000), ring, told{of(35350, 45156), of(9579, 10037)}}, {"a ball, unlike", ball(200, -5000), ring, told{of(35303, 45082), of(9544, 9993)}}, {"a ball, the other unlike", ball(-200, 5000), ring, told{of(34824, 44603), of(9347, 9796)}},
		{"a parabola, A4", cone(200, 0), at16, told{of(-127721, -127713), of(-7773, -7772)}}, {"a parabola, A6", cone(0, 5000), at16, told{of(-129733, -129728), of(-7941, -7940)}}, {"a parabola, both", cone(200, 5000), at16, told{of(-126381, -126370), of(-7522, -7520)}}, {"a parabola, A6 below 0", cone(200, -5000), at16, told{of(-129062, -129056), of(-8025, -8024)}},
		{"a ball at its side", ball(1, 1), at16, nones}, {"a ball past its side", ball(1, 1), whole(17), nones},
	})
}

// TestNotBent: where Bent is false terms count for nothing, whatever they are.
func TestNotBent(t *testing.T) {
	all := append(terms(), wrong()...)
	for _, curve := range curves() {
		for n, r2 := range squares() {
			s := face(curve, conics()[n%len(conics())])
			want := tell(s, r2)
			for k, a := range all {
				s.A4, s.A6 = a, all[(k*3+n)%len(all)]
				checkRows(t, []row{{"not Bent", s, r2, want}})
			}
		}
	}
	for _, a := range append(wrong(), whole(2), whole(-3)) {
		checkRows(t, []row{{"a plane, not Bent", api.Surf{Curve: whole(0), Conic: whole(1), A4: a, A6: a}, whole(2000), told{whole(0), whole(0)}}, {"a ball, not Bent", api.Surf{Curve: point(one / 4), Conic: whole(1), A4: a, A6: whole(1)}, whole(12), told{whole(2), point(16384)}}})
	}
}

// TestBentByNothing: terms of 0 are added all the same, and change nothing; None is no 0, though its ends are.
func TestBentByNothing(t *testing.T) {
	for _, curve := range curves() {
		for _, conic := range conics() {
			for _, r2 := range squares() {
				want := tell(face(curve, conic), r2)
				checkRows(t, []row{
					{"terms of 0", bent(curve, conic, whole(0), whole(0)), r2, want},
					{"A4 of None", bent(curve, conic, none, whole(0)), r2, nones}, {"A6 of None", bent(curve, conic, whole(0), none), r2, nones}, {"both of None", bent(curve, conic, none, none), r2, nones},
				})
			}
		}
	}
	checkRows(t, []row{{"a plane, terms of 0", bent(whole(0), whole(1), whole(0), whole(0)), whole(2000), told{whole(0), whole(0)}}, {"a ball, terms of 0", bent(point(one/4), whole(1), whole(0), whole(0)), whole(7), told{whole(1), of(10922, 10923)}}})
}

// TestNoDepth: where z alone is beyond what a number may be there is neither; at the bounds there are both.
func TestNoDepth(t *testing.T) {
	flat := func(a4, a6 api.Iv) api.Surf { return bent(whole(0), whole(1), a4, a6) }
	cone := func(a4 api.Iv) api.Surf { return bent(whole(2), whole(0), a4, whole(0)) }
	checkBoth(t, []row{
		{"Curve by r2, at the bounds", face(whole(2), whole(0)), whole(8192), told{whole(8192), whole(1)}}, {"Curve by r2, past them", face(whole(2), whole(0)), point(8192*one + 1), nones}, {"up to past them", face(whole(2), whole(0)), of(0, 8192*one+1), nones},
		{"Curve by r2, at the lower bounds", face(whole(2), whole(0)), whole(-8192), told{whole(-8192), whole(1)}}, {"Curve by r2, below them", face(whole(2), whole(0)), point(-8192*one - 1), nones},
		{"past them, though terms would lead back", cone(whole(-100)), whole(9000), nones},
		{"A4, at the bounds", flat(whole(64), whole(0)), whole(16000), told{whole(16384), of(134217, 134218)}}, {"A4, past them", flat(point(64*one+1), whole(0)), whole(16000), nones},
		{"A6, at the bounds", flat(whole(0), whole(4)), whole(16000), told{whole(16384), of(201326, 201327)}}, {"A6, past them", flat(whole(0), point(4*one+1)), whole(16000), nones},
		{"terms within them, one by one not", flat(whole(65), whole(-5)), whole(16000), told{whole(-3840), of(-115344, -115343)}}, {"terms that leave them on the way", flat(whole(-8000), whole(5000)), whole(16000), nones},
		{"the sum, at the bounds", cone(whole(131)), whole(8000), told{whole(16384), of(202899, 202900)}}, {"the sum, past them", cone(point(131*one + 1)), whole(8000), nones}, {"the sum, far from them", cone(point(-131*one - 1)), whole(8000), told{point(-25165888), of(-71828, -71827)}},
	})
}

// TestNoSlope: where the slope alone is none there is neither.
func TestNoSlope(t *testing.T) {
	flat := func(a4, a6 api.Iv) api.Surf { return bent(whole(0), whole(1), a4, a6) }
	steep := func(a4 int) api.Surf { return bent(whole(128), point(4), whole(a4), whole(0)) }
	checkBoth(t, []row{
		{"q of 0, z of 4", face(point(one/4), whole(1)), whole(16), nones}, {"q from 0", face(point(one/4), whole(1)), of(15*one, 16*one), nones}, {"q of a step's root", face(point(one/4), whole(1)), point(1048560), told{point(261120), whole(32)}},
		{"a slope at the bounds", face(whole(128), point(4)), point(65535), told{point(8355840), whole(16384)}}, {"q of 0", face(whole(128), point(4)), point(65536), nones},
		{"a sum at the bounds", steep(0), point(65535), told{point(8355840), whole(16384)}}, {"a sum past them", steep(1), point(65535), nones}, {"a sum far past them", steep(8000), point(65535), nones}, {"a sum within them", steep(-1), point(65535), told{of(8355839, 8355840), of(1073741823, 1073741824)}}, {"a sum far within them", steep(-8000), point(65535), told{of(8355308, 8355325), of(1073740768, 1073740784)}},
		{"twice A4, at the bounds", flat(whole(8192), whole(0)), whole(1), told{of(528, 545), of(1064, 1082)}}, {"twice A4, past them", flat(point(8192*one+1), whole(0)), whole(1), nones}, {"twice A4, past them, at 0", flat(point(8192*one+1), whole(0)), whole(0), nones},
		{"three times A6, at the bounds", flat(whole(0), point(most/3)), whole(1), told{of(0, 1), of(1, 2)}}, {"three times A6, past them", flat(whole(0), point(most/3+1)), whole(1), nones}, {"three times A6, past them, at 0", flat(whole(0), point(most/3+1)), whole(0), nones},
		{"A4's slope, within the bounds", flat(whole(5000), whole(0)), whole(1638), told{of(879164002, 879180383), of(1073470, 1073480)}}, {"A4's slope, past them", flat(whole(5000), whole(0)), whole(1639), nones},
		{"A6's slope, within the bounds", flat(whole(0), whole(5000)), whole(1040), told{of(368588296, 368604523), of(1063242, 1063274)}}, {"A6's slope, past them", flat(whole(0), whole(5000)), whole(1050), nones},
	})
}

// TestNoRoot: what the root is taken of, at the bounds and past them, and all that is on the way to it.
func TestNoRoot(t *testing.T) {
	deep := whole(128) // its square is Most
	checkBoth(t, []row{
		{"1 less, at the bounds", face(deep, whole(-1)), point(65532), told{point(65024), point(32768)}}, {"1 less, past them", face(deep, whole(-1)), point(65533), nones}, {"1 less, at the bounds, below 0", face(deep, whole(1)), point(-65532), told{point(-65024), point(32768)}}, {"1 less, past them, below 0", face(deep, whole(1)), point(-65533), nones},
		{"Curve's square, at the bounds", face(deep, whole(0)), whole(1), told{whole(64), whole(64)}}, {"Curve's square, past them", face(point(128*one+1), whole(0)), whole(1), nones}, {"Curve's square, past them, at 0", face(point(128*one+1), whole(0)), whole(0), nones}, {"Curve's square, wide, past them", face(of(-1, 128*one+1), whole(0)), whole(0), nones},
		{"Conic by it, at the bounds", face(deep, whole(1)), whole(0), told{whole(0), whole(64)}}, {"Conic by it, past them, at 0", face(deep, point(one+1)), whole(0), nones}, {"Conic by it, at the lower bounds", face(deep, whole(-1)), whole(0), told{whole(0), whole(64)}}, {"Conic by it, below them, at 0", face(deep, point(-one-1)), whole(0), nones},
		{"a root of less than a step", face(point(one/4), whole(1)), point(16*one - 1), nones}, {"a root of less than a step below 0", face(point(one/4), whole(1)), point(16*one + 1), nones}, {"a root of what may be below 0", face(point(-one/4), of(one, one+1)), point(1048560), nones}, {"a root of what is below 0", face(whole(1), whole(1)), whole(2), nones},
	})
}

// TestNotRight: of a number that is not right, in its turn, there is nothing, though it would count for 0; of A4 and A6 with Bent.
func TestNotRight(t *testing.T) {
	for _, bad := range wrong() {
		for _, s := range []api.Surf{face(whole(0), whole(1)), face(point(one/4), whole(0)), face(whole(0), whole(0)), bent(point(one/4), whole(1), whole(1), whole(1)), bent(whole(0), whole(0), whole(0), whole(0))} {
			curve, conic, a4, a6 := s, s, s, s
			curve.Curve, conic.Conic, a4.A4, a6.A6 = bad, bad, bad, bad
			checkRows(t, []row{{"r2 that is not right", s, bad, nones}})
			for _, r2 := range []api.Iv{whole(0), whole(1), of(0, 9*one), whole(-2)} {
				checkRows(t, []row{{"Curve that is not right", curve, r2, nones}, {"Conic that is not right", conic, r2, nones}})
				want := tell(s, r2)
				if want == nones {
					t.Errorf("14.1: Of(%+v, %+v) is None", s, r2)
				}
				if s.Bent {
					want = nones
				}
				checkRows(t, []row{{"A4 that is not right", a4, r2, want}, {"A6 that is not right", a6, r2, want}})
			}
		}
		all := api.Surf{Bent: true, Curve: bad, Conic: bad, A4: bad, A6: bad}
		checkRows(t, []row{{"none that is right", all, bad, nones}, {"r2 alone that is right", all, whole(1), nones}})
	}
}

// TestOtherParts: Stop, At, Open2 and Ratio change nothing.
func TestOtherParts(t *testing.T) {
	others := append(wrong(), whole(0), whole(5), of(-one, one), of(-most, most))
	for _, s := range []api.Surf{face(whole(0), whole(1)), face(point(one/4), whole(1)), face(of(-1311, -1310), whole(-3)), bent(point(one/4), whole(0), whole(200), whole(-5000)), bent(whole(0), whole(1), whole(0), whole(0)), face(none, whole(1))} {
		for _, r2 := range []api.Iv{whole(0), whole(7), of(4*one, 5*one), whole(16), whole(-5)} {
			want := tell(s, r2)
			for k, a := range others {
				stop, all := s, s
				stop.Stop = true
				checkRows(t, []row{{"of a stop", stop, r2, want}})
				for n := range 3 {
					other := s
					*[]*api.Iv{&other.At, &other.Open2, &other.Ratio}[n] = a
					checkRows(t, []row{{"with another part", other, r2, want}})
				}
				all.Stop, all.At, all.Open2, all.Ratio = k%2 == 0, a, others[(k+1)%len(others)], others[(k*3+2)%len(others)]
				checkRows(t, []row{{"with other parts", all, r2, want}})
			}
		}
	}
}

// ways are how the parts of the answer are reckoned.
type ways struct {
	below func(c, k, r2 api.Iv) api.Iv    // what is taken from 1 ahead of the root
	deep  func(c, k, r2, q api.Iv) api.Iv // z without terms
	steep func(c, q api.Iv) api.Iv        // the slope without terms
	by    func(r2 api.Iv) api.Iv          // u
	more  func(a4, a6, u api.Iv) api.Iv   // what z has of the terms
	rise  func(a4, a6, u api.Iv) api.Iv   // what the slope has of them
}

// written are the ways as the chapter writes them.
func written() ways {
	return ways{
		below: func(c, k, r2 api.Iv) api.Iv { return iv.Mul(iv.Mul(k, iv.Sqr(c)), r2) },
		deep:  func(c, k, r2, q api.Iv) api.Iv { return iv.Div(iv.Mul(c, r2), iv.Add(iv.Point(one), q)) },
		steep: func(c, q api.Iv) api.Iv { return iv.Div(c, iv.Times(q, 2)) },
		by:    func(r2 api.Iv) api.Iv { return iv.Div(r2, iv.Whole(1000)) },
		more: func(a4, a6, u api.Iv) api.Iv {
			return poly.Horner([]api.Iv{iv.Point(0), iv.Point(0), a4, a6}, u)
		},
		rise: func(a4, a6, u api.Iv) api.Iv {
			return iv.Div(poly.Horner(poly.Slope([]api.Iv{iv.Point(0), iv.Point(0), a4, a6}), u), iv.Whole(1000))
		},
	}
}

// said is what Of ought to answer, by the ways.
func (w ways) said(s api.Surf, r2 api.Iv) told {
	q := iv.Root(iv.Sub(iv.Point(one), w.below(s.Curve, s.Conic, r2)))
	z, slope := w.deep(s.Curve, s.Conic, r2, q), w.steep(s.Curve, q)
	if s.Bent {
		u := w.by(r2)
		z, slope = iv.Add(z, w.more(s.A4, s.A6, u)), iv.Add(slope, w.rise(s.A4, s.A6, u))
	}
	if z.No || slope.No {
		return nones
	}
	return told{z, slope}
}

// otherwise are ways that differ in one part from those of the chapter, in no sum that is exact.
func otherwise() map[string]ways {
	m := map[string]ways{}
	add := func(name string, turn func(w *ways)) {
		w := written()
		turn(&w)
		m[name] = w
	}
	mul, div, sqr, times, thousand := iv.Mul, iv.Div, iv.Sqr, iv.Times, iv.Whole(1000)
	add("Conic by Curve's square and r2", func(w *ways) { w.below = func(c, k, r2 api.Iv) api.Iv { return mul(k, mul(sqr(c), r2)) } })
	add("Conic and r2 by Curve's square", func(w *ways) { w.below = func(c, k, r2 api.Iv) api.Iv { return mul(mul(k, r2), sqr(c)) } })
	add("Curve by Curve", func(w *ways) { w.below = func(c, k, r2 api.Iv) api.Iv { return mul(mul(k, mul(c, c)), r2) } })
	add("Conic and Curve by Curve and r2", func(w *ways) { w.below = func(c, k, r2 api.Iv) api.Iv { return mul(mul(k, c), mul(c, r2)) } })
	add("Conic by Curve, twice", func(w *ways) { w.below = func(c, k, r2 api.Iv) api.Iv { return mul(mul(mul(k, c), c), r2) } })
	add("Curve by r2's quotient", func(w *ways) {
		w.deep = func(c, _, r2, q api.Iv) api.Iv { return mul(c, div(r2, iv.Add(whole(1), q))) }
	})
	add("r2 by Curve's quotient", func(w *ways) {
		w.deep = func(c, _, r2, q api.Iv) api.Iv { return mul(r2, div(c, iv.Add(whole(1), q))) }
	})
	add("1 less q", func(w *ways) {
		w.deep = func(c, k, _, q api.Iv) api.Iv { return div(iv.Sub(whole(1), q), mul(k, c)) }
	})
	add("Curve by q, and by 2", func(w *ways) { w.steep = func(c, q api.Iv) api.Iv { return div(div(c, q), whole(2)) } })
	add("Curve by 2, and by q", func(w *ways) { w.steep = func(c, q api.Iv) api.Iv { return div(div(c, whole(2)), q) } })
	add("Curve times a quotient", func(w *ways) { w.steep = func(c, q api.Iv) api.Iv { return mul(c, div(whole(1), times(q, 2))) } })
	add("r2 times a thousandth", func(w *ways) { w.by = func(r2 api.Iv) api.Iv { return mul(r2, div(whole(1), thousand)) } })
	add("squares and cubes", func(w *ways) {
		w.more = func(a4, a6, u api.Iv) api.Iv { return iv.Add(mul(a4, sqr(u)), mul(a6, mul(u, sqr(u)))) }
	})
	add("products of u", func(w *ways) {
		w.more = func(a4, a6, u api.Iv) api.Iv { return iv.Add(mul(a4, mul(u, u)), mul(a6, mul(u, mul(u, u)))) }
	})
	add("u's square by both", func(w *ways) {
		w.more = func(a4, a6, u api.Iv) api.Iv { return mul(sqr(u), iv.Add(a4, mul(a6, u))) }
	})
	add("each by a thousand first", func(w *ways) {
		w.rise = func(a4, a6, u api.Iv) api.Iv {
			return poly.Horner([]api.Iv{whole(0), div(times(a4, 2), thousand), div(times(a6, 3), thousand)}, u)
		}
	})
	add("each by a thousand last", func(w *ways) {
		w.rise = func(a4, a6, u api.Iv) api.Iv {
			return iv.Add(div(mul(times(a4, 2), u), thousand), div(mul(mul(times(a6, 3), u), u), thousand))
		}
	})
	add("twice and three times last", func(w *ways) {
		w.rise = func(a4, a6, u api.Iv) api.Iv {
			return div(iv.Add(times(mul(a4, u), 2), times(mul(a6, sqr(u)), 3)), thousand)
		}
	})
	add("u by a thousand again", func(w *ways) {
		w.rise = func(a4, a6, u api.Iv) api.Iv {
			return mul(div(u, thousand), iv.Add(times(a4, 2), mul(times(a6, 3), u)))
		}
	})
	add("the slope by u", func(w *ways) {
		w.rise = func(a4, a6, u api.Iv) api.Iv {
			return poly.Horner([]api.Iv{whole(0), times(a4, 2), times(a6, 3)}, u)
		}
	})
	return m
}

// TestOrder: the calls are done as they are written: at these inputs each other way tells other steps.
func TestOrder(t *testing.T) {
	rows := []row{
		{"a wide cone", face(of(-22428, -22243), point(67860)), of(381783, 433288), told{of(-102614, -83463), of(-25197, -20129)}},
		{"a curve about 0", face(of(-193, 413), of(-17184, -16878)), of(773627, 801125), told{of(-1180, 2525), of(-97, 207)}},
		{"a slope at the bounds", face(whole(128), point(4)), point(65535), told{point(8355840), whole(16384)}},
		{"a plane with terms", bent(whole(0), whole(1), point(47824608), point(-9955458)), point(17989525), told{of(3397437, 3397828), of(24004, 24006)}},
		{"a cone with terms", bent(of(-3882, -3877), point(26319), of(8191799, 8195545), of(-18845470, -18842614)), of(1258747, 1322917), told{of(-36589, -34290), of(-1678, -1655)}},
	}
	checkBoth(t, rows)
	for name, w := range otherwise() {
		same := 0
		for _, r := range rows {
			if w.said(r.s, r.r2) == r.want {
				same++
			}
		}
		if same == len(rows) {
			t.Errorf("14.1: %q tells the same of every row", name)
		}
	}
}

// faces are of all curves and conics, with terms and without, numbers that are not right among them.
func faces() []api.Surf {
	var l []api.Surf
	all := append(terms(), none, of(1, 0), point(most+1))
	for n, curve := range append(curves(), none, of(5, 4), point(most+1)) {
		for m, conic := range append(conics(), none, of(5, 4), point(-most-1)) {
			l = append(l, face(curve, conic), bent(curve, conic, whole(0), whole(0)))
			for k := range 14 {
				l = append(l, bent(curve, conic, all[k], all[(k*5+n*3+m)%len(all)]))
			}
		}
	}
	return l
}

// TestWords: of all that can be handed in, right or not, the answer is by the words, and each time the same (R1, R4).
func TestWords(t *testing.T) {
	w := written()
	for _, s := range faces() {
		for _, r2 := range append(squares(), none, of(1, 0), of(most, most+1), of(math.MinInt, math.MaxInt)) {
			want := w.said(s, r2)
			for range 2 {
				if got := tell(s, r2); got != want {
					t.Errorf("14.1: Of(%+v, %+v) = %+v, not %+v", s, r2, got, want)
				}
			}
		}
	}
}

// within are some whole numbers in a.
func within(a api.Iv) []int {
	return []int{a.Lo, a.Lo + (a.Hi-a.Lo)/3, a.Lo + (a.Hi-a.Lo)/2, a.Hi}
}

// lesser are some intervals that lie in a.
func lesser(a api.Iv) []api.Iv {
	ns := within(a)
	return []api.Iv{a, point(ns[0]), point(ns[1]), point(ns[3]), of(ns[0], ns[2]), of(ns[1], ns[3]), of(ns[1], ns[2])}
}

// lie are faces whose numbers lie in s's, some in one number alone.
func lie(s api.Surf) []api.Surf {
	l := []api.Surf{s}
	for k := range 7 {
		all, curve, conic, a4, a6 := s, s, s, s, s
		all.Curve, all.Conic, all.A4, all.A6 = lesser(s.Curve)[k], lesser(s.Conic)[(k*3+1)%7], lesser(s.A4)[(k*2+2)%7], lesser(s.A6)[(k*4+3)%7]
		curve.Curve, conic.Conic, a4.A4, a6.A6 = lesser(s.Curve)[k], lesser(s.Conic)[k], lesser(s.A4)[k], lesser(s.A6)[k]
		l = append(l, all, curve, conic, a4, a6)
	}
	return l
}

// boxes are right faces that are wide in their numbers.
func boxes() []api.Surf {
	var l []api.Surf
	for n, curve := range []api.Iv{of(-16384, 16384), of(1310, 1311), of(-7000, -6500), of(0, 900), of(-3, 2), of(15000, 16000), whole(0), point(-one / 4), of(60000, 70000)} {
		for m, conic := range []api.Iv{whole(1), of(one-3, one+300), of(-one, one), of(-3*one, -2*one), of(0, one/2), of(-1, 0), of(one, 3*one), of(-70*one, 4)} {
			l = append(l, face(curve, conic))
			for k := range 4 {
				a := []api.Iv{of(-77, 78), of(-one, 2*one), whole(2), of(300*one, 301*one), of(-90*one, -80*one), whole(0), of(-4*one, 0)}
				l = append(l, bent(curve, conic, a[(k+n)%7], a[(k*3+m)%7]))
			}
		}
	}
	return l
}

// spans are places and widths, most of them where faces are.
func spans() []api.Iv {
	return []api.Iv{whole(0), whole(1), of(0, one), of(4*one, 5*one), of(0, 9*one), of(-one, one), of(-3*one, -2*one), of(14*one, 17*one), of(90*one, 100*one), of(0, 400*one), of(1000*one, 1600*one), of(65535, 65537)}
}

// TestLess: of a narrower r2, and of a face whose numbers lie in another one's, z and slope lie in the wider one's (W1).
func TestLess(t *testing.T) {
	said, surer := 0, 0
	for _, s := range boxes() {
		for _, r2 := range spans() {
			more := tell(s, r2)
			for _, inner := range lie(s) {
				for _, narrow := range lesser(r2) {
					less := tell(inner, narrow)
					if more == nones {
						if less != nones {
							surer++
						}
						continue
					}
					said++
					if !iv.Inside(less.z, more.z) || !iv.Inside(less.slope, more.slope) {
						t.Errorf("W1: Of(%+v, %+v) = %+v, not in that of %+v, %+v: %+v", inner, narrow, less, s, r2, more)
					}
				}
			}
		}
	}
	// Nones hold anything: the test is one only while much is said.
	if said < 100000 || surer < 1000 {
		t.Errorf("W1: only %d answers say something, %d where more says nothing", said, surer)
	}
}

// numbers are a face's, exact.
type numbers struct {
	curve, conic, a4, a6 *big.Rat
}

// rat is n / by, exact.
func rat(n, by int) *big.Rat {
	return big.NewRat(int64(n), int64(by))
}

func product(l ...*big.Rat) *big.Rat {
	p := rat(1, 1)
	for _, a := range l {
		p.Mul(p, a)
	}
	return p
}

func sum(l ...*big.Rat) *big.Rat {
	p := new(big.Rat)
	for _, a := range l {
		p.Add(p, a)
	}
	return p
}

// square is what q is the root of, at r2.
func (n numbers) square(r2 *big.Rat) *big.Rat {
	return sum(rat(1, 1), product(rat(-1, 1), n.conic, n.curve, n.curve, r2))
}

// roots are the root of a, which is not below 0, from below and from above: the same, if it is exact, else very near to one another.
func roots(a *big.Rat) [2]*big.Rat {
	fine := new(big.Int).Lsh(big.NewInt(1), 200)
	whole := new(big.Int).Mul(a.Num(), a.Denom())
	whole.Mul(whole, fine).Mul(whole, fine)
	low := new(big.Int).Sqrt(whole)
	high := new(big.Int).Set(low)
	if new(big.Int).Mul(low, low).Cmp(whole) != 0 {
		high.Add(high, big.NewInt(1))
	}
	by := new(big.Int).Mul(a.Denom(), fine)
	return [2]*big.Rat{new(big.Rat).SetFrac(low, by), new(big.Rat).SetFrac(high, by)}
}

// depth is z at r2, by that root of the square.
func (n numbers) depth(r2, q *big.Rat) *big.Rat {
	u := product(r2, rat(1, 1000))
	cone := new(big.Rat).Quo(product(n.curve, r2), sum(rat(1, 1), q))
	return sum(cone, product(n.a4, u, u), product(n.a6, u, u, u))
}

// slope is z's, by r2, by that root of the square, which is not 0.
func (n numbers) slope(r2, q *big.Rat) *big.Rat {
	u := product(r2, rat(1, 1000))
	cone := new(big.Rat).Quo(n.curve, sum(q, q))
	return sum(cone, product(rat(2, 1000), n.a4, u), product(rat(3, 1000), n.a6, u, u))
}

// holds tells whether what lies between both, either way round, can lie in a.
func holds(a api.Iv, b [2]*big.Rat) bool {
	lo, hi := b[0], b[1]
	if lo.Cmp(hi) > 0 {
		lo, hi = hi, lo
	}
	return rat(a.Lo, one).Cmp(hi) <= 0 && lo.Cmp(rat(a.Hi, one)) <= 0
}

// checkHeld holds what was told against the exact face at r2.
func checkHeld(t *testing.T, got told, n numbers, r2 *big.Rat) {
	t.Helper()
	if n.square(r2).Sign() <= 0 {
		t.Errorf("W1: %+v of %+v at %v, where there is no face, or an upright one", got, n, r2)
		return
	}
	q := roots(n.square(r2))
	if z := [2]*big.Rat{n.depth(r2, q[0]), n.depth(r2, q[1])}; !holds(got.z, z) {
		t.Errorf("W1: z, %+v, is without that of %+v at %v", got.z, n, r2)
	}
	if slope := [2]*big.Rat{n.slope(r2, q[0]), n.slope(r2, q[1])}; !holds(got.slope, slope) {
		t.Errorf("W1: the slope, %+v, is without that of %+v at %v", got.slope, n, r2)
	}
}

// exacts are some exact faces of numbers in s.
func exacts(s api.Surf) []numbers {
	var l []numbers
	for k := range 4 {
		n := numbers{rat(within(s.Curve)[k], one), rat(within(s.Conic)[(k*3+1)%4], one), rat(0, 1), rat(0, 1)}
		if s.Bent {
			n.a4, n.a6 = rat(within(s.A4)[(k+2)%4], one), rat(within(s.A6)[(k*3)%4], one)
		}
		l = append(l, n)
	}
	return l
}

// TestHeld: of numbers in a face and in r2 the exact depth and the exact slope lie in the answer (W1).
func TestHeld(t *testing.T) {
	said := 0
	for _, s := range boxes() {
		for _, r2 := range spans() {
			got := tell(s, r2)
			if got == nones {
				continue
			}
			for _, n := range exacts(s) {
				for _, at := range within(r2) {
					said++
					checkHeld(t, got, n, rat(at, one))
				}
			}
		}
	}
	if said < 20000 {
		t.Errorf("W1: only %d places were held", said)
	}
}

// TestSteep: from place to place a face goes up as its slope says, which is by r2.
func TestSteep(t *testing.T) {
	said := 0
	for _, s := range boxes() {
		for _, r2 := range spans() {
			got := tell(s, r2)
			if got == nones || r2.Lo == r2.Hi {
				continue
			}
			near, far := rat(r2.Lo, one), rat(r2.Hi, one)
			for _, n := range exacts(s) {
				said++
				start, end := roots(n.square(near)), roots(n.square(far))
				var rise [2]*big.Rat
				for k := range 2 {
					rise[k] = sum(n.depth(far, end[k]), product(rat(-1, 1), n.depth(near, start[1-k])))
					rise[k].Quo(rise[k], rat(r2.Hi-r2.Lo, one))
				}
				if !holds(got.slope, rise) {
					t.Errorf("14.1: %+v from %v to %v goes not as %+v says", n, near, far, got.slope)
				}
			}
		}
	}
	if said < 5000 {
		t.Errorf("14.1: only %d ways were gone", said)
	}
}

// TestOfLens: the exact faces of a lens that is read lie in the answers of what it is in numbers (W1).
func TestOfLens(t *testing.T) {
	l, _, e := lens.Read("lens a 40\nface -50.3 10 2 air conic -0.5 a4 0.7 a6 -1.9\nface 17.1 5 2 air\nface 0 5 2 air a4 -3.3\nstop 4 1\nface 31.7 5 2 air conic -1\nface -9.9 5 2 air conic 0.31 a6 12.34\n", nil)
	if e != api.OK {
		t.Fatalf("12.1: %d", e)
	}
	s, e := system.Build(l, nil, whole(1))
	if e != api.OK {
		t.Fatalf("13.1: %d", e)
	}
	exact := func(d api.Dec) *big.Rat {
		n := rat(d.C, 1)
		for range d.Scale {
			n.Quo(n, rat(10, 1))
		}
		return n
	}
	for k, f := range l.Faces {
		n := numbers{rat(0, 1), sum(rat(1, 1), exact(f.Conic)), exact(f.A4), exact(f.A6)}
		if f.Radius.C != 0 {
			n.curve.Inv(exact(f.Radius))
		}
		for at := -one; at < 26*one; at += one/3 + 7 {
			got := tell(s.Surfs[k], of(at, at+k*k*100))
			if got == nones {
				t.Errorf("14.1: nothing of face %d at %d", k, at)
				continue
			}
			checkHeld(t, got, n, rat(at, one))
		}
	}
}

// TestNothingPanics: whatever is handed in; a None has Lo and Hi 0 (R1, R3).
func TestNothingPanics(t *testing.T) {
	ints := []int{math.MinInt, -1 << 32, -most - 1, -most, -1, 0, 1, 256, one, most, most + 1, 1 << 32, math.MaxInt}
	for n, a := range ints {
		for m, b := range ints {
			for k := range 64 {
				x, y := api.Iv{Lo: a, Hi: b, No: k%16 == 15}, of(ints[(n+k)%13], ints[(m+k*3)%13])
				l := [6]api.Iv{x, y, whole(0), whole(1), of(a, a), of(b, b)}
				s := api.Surf{Stop: k%2 == 0, Bent: k%4 < 3, Curve: l[k%6], Conic: l[(k/2)%6], A4: l[(k/3)%6], A6: l[(k/5)%6], At: x, Open2: y, Ratio: x}
				got := tell(s, l[(k/7)%6])
				if got != nones && (!iv.Right(got.z) || !iv.Right(got.slope)) {
					t.Errorf("14.1: Of(%+v, %+v) = %+v: neither right nor None", s, l[(k/7)%6], got)
				}
				if again := tell(s, l[(k/7)%6]); again != got {
					t.Errorf("R4: Of(%+v, %+v) = %+v, then %+v", s, l[(k/7)%6], got, again)
				}
			}
		}
	}
	if got := tell(api.Surf{}, api.Iv{}); got != (told{}) {
		t.Errorf("14.1: of a face whose numbers are 0: %+v", got)
	}
}

// TestAsOften: the same is answered however often it is asked, whatever was asked between, and nothing that is handed in is changed (R2, R4).
func TestAsOften(t *testing.T) {
	l := []api.Surf{face(point(one/4), whole(1)), bent(point(one/4), whole(1), whole(200), whole(-5000)), face(whole(0), whole(1)), bent(none, whole(1), whole(1), none)}
	kept := append([]api.Surf(nil), l...)
	wants := []told{{of(35120, 44786), of(9459, 9881)}, {of(35303, 45082), of(9544, 9993)}, {whole(0), whole(0)}, nones}
	r2 := of(4*one, 5*one)
	for range 3 {
		for k, want := range wants {
			checkRows(t, []row{{"asked again", l[k], r2, want}})
			for _, other := range l {
				sag.Of(other, whole(17))
				sag.Of(other, none)
			}
			checkRows(t, []row{{"asked again, behind others", l[k], r2, want}})
		}
	}
	for k := range l {
		if l[k] != kept[k] || r2 != of(4*one, 5*one) {
			t.Errorf("R2: %+v was changed", kept[k])
		}
	}
}

// FuzzOf: nothing panics, and each answer is as the document says.
func FuzzOf(f *testing.F) {
	f.Add(one/4, 0, one, 0, 0, 0, 0, 0, 7*one, 0, false, false)
	f.Add(-1311, 1, -3*one, 5, 200*one, one, -5000*one, one, 4*one, one, true, false)
	f.Add(128*one, 0, 4, 0, one, 0, math.MinInt, math.MaxInt, 65535, 0, true, true)
	f.Fuzz(func(t *testing.T, curve, more, conic, more2, a4, more4, a6, more6, r2, wide int, isBent, no bool) {
		s := api.Surf{Stop: no, Bent: isBent, Curve: of(curve, curve+more), Conic: of(conic, conic+more2), A4: of(a4, a4+more4), A6: of(a6, a6+more6), At: of(wide, r2)}
		s.A6.No = no
		at := of(r2, r2+wide)
		got := tell(s, at)
		if want := written().said(s, at); got != want {
			t.Errorf("14.1: Of(%+v, %+v) = %+v, not %+v", s, at, got, want)
		}
		if got == nones {
			return
		}
		for _, n := range exacts(s) {
			checkHeld(t, got, n, rat(r2, one))
		}
	})
}

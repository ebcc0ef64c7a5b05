package step_test

import (
	"math"
	"math/big"
	"testing"

	"meniscus/api"
	"meniscus/glass"
	"meniscus/hit"
	"meniscus/iv"
	"meniscus/lens"
	"meniscus/normal"
	"meniscus/sag"
	"meniscus/snell"
	"meniscus/step"
	"meniscus/system"
	"meniscus/tri"
	"meniscus/vec"
)

const (
	one     = api.One
	most    = api.Most
	half    = one / 2
	quarter = one / 4
)

var (
	none  = api.Iv{No: true}
	nones = api.V{X: none, Y: none, Z: none}
	axis  = at(0, 0, 1)
	into  = of(43690, 43691) // 1 / 1.5, from air into glass
	out   = point(3 * half)  // 1.5, out of it
)

func of(lo, hi int) api.Iv {
	return api.Iv{Lo: lo, Hi: hi}
}

func point(n int) api.Iv {
	return of(n, n)
}

// whole is a point of a whole number: One steps to each 1.
func whole(n int) api.Iv {
	return point(n * one)
}

// wholes is from one whole number to another.
func wholes(lo, hi int) api.Iv {
	return of(lo*one, hi*one)
}

func box(x, y, z api.Iv) api.V {
	return api.V{X: x, Y: y, Z: z}
}

// at is a place, or a way, of whole numbers.
func at(x, y, z int) api.V {
	return box(whole(x), whole(y), whole(z))
}

// steps is one of points.
func steps(x, y, z int) api.V {
	return box(point(x), point(y), point(z))
}

// from is a ray.
func from(o, d api.V) api.Ray {
	return api.Ray{O: o, D: d}
}

// face is one without terms, at 10, open up to 8: its curve, 1 and its conic constant, and the index ahead of it by that behind it.
func face(curve, conic int, ratio api.Iv) api.Surf {
	return api.Surf{Curve: point(curve), Conic: point(conic), A4: whole(0), A6: whole(0), At: whole(10), Open2: whole(64), Ratio: ratio}
}

// bent is one with terms.
func bent(curve, conic, a4, a6 int, ratio api.Iv) api.Surf {
	s := face(curve, conic, ratio)
	s.Bent, s.A4, s.A6 = true, whole(a4), whole(a6)
	return s
}

// stop is one at 10, open up to 8, as package system builds it.
func stop() api.Surf {
	s := face(0, one, whole(1))
	s.Stop = true
	return s
}

// open is s with another opening.
func open(s api.Surf, open2 api.Iv) api.Surf {
	s.Open2 = open2
	return s
}

// told is what Go answers.
type told struct {
	r    api.Ray
	kind int
}

var (
	blocked = told{from(nones, nones), api.Blocked}
	unknown = told{from(nones, nones), api.Unknown}
)

// through is what Go answers of a ray that goes on.
func through(o, d api.V) told {
	return told{from(o, d), api.Through}
}

func tell(s api.Surf, r api.Ray) told {
	behind, kind := step.Go(s, r)
	return told{behind, kind}
}

// row of a table: what is asked, and what is to be answered.
type row struct {
	what string
	s    api.Surf
	r    api.Ray
	want told
}

// motion is one of the eight that bring a square upon itself: k quarters on, mirrored first from the fourth on.
func motion(r api.Ray, k int) api.Ray {
	move := func(a api.V) api.V {
		if k > 3 {
			a = vec.Mirror(a)
		}
		return vec.Turn(a, k%4)
	}
	return from(move(r.O), move(r.D))
}

// check holds one answer.
func check(t *testing.T, r row) {
	t.Helper()
	if got := tell(r.s, r.r); got != r.want {
		t.Errorf("18.1: %s: Go(%+v, %+v) = %+v, not %+v", r.what, r.s, r.r, got, r.want)
	}
}

// checkTurned holds the rows, turned by quarters and mirrored (W3).
func checkTurned(t *testing.T, rows []row) {
	t.Helper()
	for _, r := range rows {
		for k := range 8 {
			check(t, row{r.what, r.s, motion(r.r, k), told{motion(r.want.r, k), r.want.kind}})
		}
	}
}

// checkRows holds the rows, turned and mirrored, and exact faces and rays in them (W1).
func checkRows(t *testing.T, rows []row) {
	t.Helper()
	checkTurned(t, rows)
	for _, r := range rows {
		for _, n := range members(r.s, r.r) {
			checkHeld(t, r.want, n)
		}
	}
}

// number is one that is exact, or very nearly.
type number = *big.Float

const bits = 300

// tiny is more than what the rounding of numbers can come to.
var tiny = new(big.Float).SetMantExp(big.NewFloat(1), -100)

func count(n int) number {
	return new(big.Float).SetPrec(bits).SetInt64(int64(n))
}

func quotient(a, b number) number {
	return new(big.Float).SetPrec(bits).Quo(a, b)
}

// inSteps is n / One.
func inSteps(n int) number {
	return quotient(count(n), count(one))
}

func product(l ...number) number {
	p := count(1)
	for _, a := range l {
		p.Mul(p, a)
	}
	return p
}

func total(l ...number) number {
	p := count(0)
	for _, a := range l {
		p.Add(p, a)
	}
	return p
}

func less(a number) number {
	return new(big.Float).Neg(a)
}

// root is a's; 0 of a number below 0.
func root(a number) number {
	if a.Sign() < 0 {
		return count(0)
	}
	return new(big.Float).Sqrt(a)
}

// within are some whole numbers in a.
func within(a api.Iv) [4]int {
	return [4]int{a.Lo, a.Lo + (a.Hi-a.Lo)/3, a.Lo + (a.Hi-a.Lo)/2, a.Hi}
}

// numbersOf are s's and r's, one by one: those of the ray from the fourth to the ninth, Ratio the tenth, the terms behind it.
func numbersOf(s *api.Surf, r *api.Ray) [13]*api.Iv {
	return [13]*api.Iv{&s.Curve, &s.Conic, &s.At, &s.Open2, &r.O.X, &r.O.Y, &r.O.Z, &r.D.X, &r.D.Y, &r.D.Z, &s.Ratio, &s.A4, &s.A6}
}

// exact is a face and a ray by exact numbers.
type exact struct {
	stop, bent                             bool
	curve, conic, at, open2, ratio, a4, a6 number
	o, d                                   [3]number
}

// members are some that lie in s and r; none where a number that counts is not right.
func members(s api.Surf, r api.Ray) (l []exact) {
	points := true
	if s.Stop {
		s.Ratio = whole(1)
	}
	if !s.Bent {
		s.A4, s.A6 = whole(0), whole(0)
	}
	for _, a := range numbersOf(&s, &r) {
		if !iv.Right(*a) {
			return nil
		}
		points = points && a.Lo == a.Hi
	}
	for k := range 4 {
		if points && k > 0 {
			break
		}
		var p [13]number
		for n, a := range numbersOf(&s, &r) {
			p[n] = inSteps(within(*a)[(k*(2*n+1)+n)%4])
		}
		l = append(l, exact{s.Stop, s.Bent, p[0], p[1], p[2], p[3], p[10], p[11], p[12], [3]number(p[4:7]), [3]number(p[7:10])})
	}
	return l
}

// by is Curve by the sum of p by q, z's by Conic.
func (n exact) by(p, q [3]number) number {
	return product(n.curve, total(product(p[0], q[0]), product(p[1], q[1]), product(n.conic, p[2], q[2])))
}

// along is where the ray, its O from the vertex on, comes to in t.
func (n exact) along(t number) (p [3]number) {
	for k := range p {
		p[k] = total(n.o[k], product(n.d[k], t))
	}
	return p
}

// dot is the sum of the parts' products.
func dot(a, b [3]number) number {
	return total(product(a[0], b[0]), product(a[1], b[1]), product(a[2], b[2]))
}

// far is the square of p's distance from the axis.
func far(p [3]number) number {
	return total(product(p[0], p[0]), product(p[1], p[1]))
}

// deep is how deep the face with its terms is, and its slope, at a square of the distance; false, where it is not.
func (n exact) deep(r2 number) (z, slope number, ok bool) {
	square := total(count(1), less(product(n.conic, n.curve, n.curve, r2)))
	if square.Cmp(tiny) < 0 {
		return nil, nil, false
	}
	q := root(square)
	u := quotient(r2, count(1000))
	z = total(quotient(product(n.curve, r2), total(count(1), q)), product(n.a4, u, u), product(n.a6, u, u, u))
	terms := total(product(count(2), n.a4, u), product(count(3), n.a6, u, u))
	return z, total(quotient(n.curve, total(q, q)), quotient(terms, count(1000))), true
}

// met is t where the face with its terms is met, found from where it is without them; false, if it isn't found within 1 of that.
func (n exact) met(first number) (number, bool) {
	t := first
	for range 40 {
		p := n.along(t)
		z, slope, ok := n.deep(far(p))
		if !ok {
			return nil, false
		}
		outward := product(count(2), total(product(p[0], n.d[0]), product(p[1], n.d[1])))
		value, rise := total(p[2], less(z)), total(n.d[2], less(product(slope, outward)))
		if new(big.Float).Abs(value).Cmp(product(tiny, tiny)) < 0 {
			off := total(t, less(first))
			return t, off.Abs(off).Cmp(count(1)) < 0
		}
		if rise.Sign() == 0 {
			return nil, false
		}
		t = total(t, less(quotient(value, rise)))
	}
	return nil, false
}

// across is the way across the face at p, 1 long; false, if there is none.
func (n exact) across(p [3]number) (a [3]number, ok bool) {
	if n.bent {
		_, slope, ok := n.deep(far(p))
		if !ok {
			return a, false
		}
		twice := product(count(-2), slope)
		a = [3]number{product(twice, p[0]), product(twice, p[1]), count(1)}
	} else {
		a = [3]number{less(product(n.curve, p[0])), less(product(n.curve, p[1])), total(count(1), less(product(n.curve, n.conic, p[2])))}
	}
	long := root(dot(a, a))
	if long.Cmp(tiny) < 0 {
		return a, false
	}
	for k := range a {
		a[k] = quotient(a[k], long)
	}
	return a, true
}

// path is where an exact ray goes.
type path struct {
	o, d  [3]number
	spare []number // what must not be below 0, that it goes on
	found bool     // is it known where it goes, as long as it goes on?
}

// goes is where the ray goes.
func (n exact) goes() path {
	n.o[2] = total(n.o[2], less(n.at))
	a, b, c := n.by(n.d, n.d), total(n.by(n.o, n.d), less(n.d[2])), total(n.by(n.o, n.o), product(count(-2), n.o[2]))
	square := total(product(b, b), less(product(a, c)))
	w := path{spare: []number{square}}
	by := total(root(square), less(b))
	if square.Sign() < 0 || by.Sign() == 0 {
		return w
	}
	t, ok := quotient(c, by), true
	if n.bent {
		t, ok = n.met(t)
	}
	if !ok {
		return w
	}
	p := n.along(t)
	w.spare = append(w.spare, total(n.open2, less(far(p))))
	w.o, w.d = [3]number{p[0], p[1], total(p[2], n.at)}, n.d
	if n.stop {
		w.found = true
		return w
	}
	across, ok := n.across(p)
	if !ok {
		return w
	}
	g := dot(n.d, across)
	k := total(count(1), less(product(n.ratio, n.ratio, total(count(1), less(product(g, g))))))
	aside := total(root(k), less(product(n.ratio, g)))
	for i := range w.d {
		w.d[i] = total(product(n.d[i], n.ratio), product(across[i], aside))
	}
	w.spare = append(w.spare, k)
	w.found = g.Sign() > 0
	return w
}

// least is the least of l.
func least(l []number) number {
	a := l[0]
	for _, b := range l {
		if b.Cmp(a) < 0 {
			a = b
		}
	}
	return a
}

// checkHeld holds what was told of a box against an exact face and ray in it (W1), and tells whether there was something to hold.
func checkHeld(t *testing.T, got told, n exact) bool {
	t.Helper()
	if got.kind == api.Unknown {
		return false
	}
	w := n.goes()
	spare := least(w.spare)
	if got.kind == api.Blocked {
		// Where a face with terms is met was not found: no more is known.
		known := w.found || spare.Cmp(tiny) < 0
		if known && spare.Cmp(tiny) >= 0 {
			t.Errorf("W1: %+v of what goes on: %+v", got, n)
		}
		return known
	}
	if spare.Cmp(less(tiny)) < 0 || !w.found && !n.bent {
		t.Errorf("W1: %+v of what does not go on: %+v", got, n)
		return true
	}
	if !w.found {
		return false
	}
	for k, part := range [6]api.Iv{got.r.O.X, got.r.O.Y, got.r.O.Z, got.r.D.X, got.r.D.Y, got.r.D.Z} {
		want := [6]number{w.o[0], w.o[1], w.o[2], w.d[0], w.d[1], w.d[2]}[k]
		if total(inSteps(part.Lo), less(tiny)).Cmp(want) > 0 || total(inSteps(part.Hi), tiny).Cmp(want) < 0 {
			t.Errorf("W1: part %d of %+v is without that of %+v", k, got, n)
		}
	}
	return true
}

var (
	ball      = face(quarter, one, point(half))
	hollow    = face(-quarter, one, point(half))
	parabola  = face(quarter, 0, point(half))
	dish      = bent(quarter, 0, 200, -5000, point(half))
	plane     = face(0, one, out)
	bentPlane = bent(0, one, 125, 0, out)
)

// curved is a stop that is s but for that.
func curved(s api.Surf) api.Surf {
	s.Stop = true
	return s
}

// by is s with another ratio.
func by(s api.Surf, ratio api.Iv) api.Surf {
	s.Ratio = ratio
	return s
}

// moved is s at another place.
func moved(s api.Surf, place api.Iv) api.Surf {
	s.At = place
	return s
}

// beside is a ray along the axis.
func beside(x, y int) api.Ray {
	return from(at(x, y, 0), axis)
}

// aslant is a way of 3, 4, 5, 1 long within a step.
var aslant = box(of(39321, 39322), whole(0), of(52428, 52429))

// TestExample: the example of chapter 18.
func TestExample(t *testing.T) {
	for _, s := range []api.Surf{ball, hollow, parabola, dish, plane, bentPlane, stop()} {
		checkRows(t, []row{{"beyond the aperture", open(s, whole(4)), beside(3, 0), blocked}, {"far beyond it", open(s, whole(4)), beside(3, 2), blocked}})
	}
}

// missed are rows of rays that do not meet a face, or may not.
func missed() []row {
	past := func(x int) api.Ray { return from(steps(x, 0, 0), axis) }
	terms, double := bent(quarter, one, 3, -2, out), face(quarter, 2*one, out)
	return []row{
		{"past a ball's side", ball, beside(0, 5), blocked}, {"two steps past it", ball, past(4*one + 2), blocked}, {"a step past it", ball, past(4*one + 1), unknown}, {"far past it", ball, beside(70, -70), blocked}, {"past it, wide", ball, from(box(wholes(5, 6), wholes(-1, 1), whole(0)), axis), blocked}, {"perhaps past it", ball, from(box(wholes(3, 5), whole(0), whole(0)), axis), unknown},
		{"past a hollow's side", hollow, beside(5, 0), blocked}, {"two steps past it", hollow, past(4*one + 2), blocked}, {"a step past it", hollow, past(4*one + 1), unknown}, {"past a ball, aslant", ball, from(at(1, -2, 0), steps(10000, -3000, 64697)), blocked},
		{"beside a parabola", parabola, from(at(0, 0, 8), at(4, 0, 1)), blocked}, {"past a conic's side", double, beside(3, 0), blocked}, {"past it, perhaps", double, from(box(wholes(2, 4), whole(2), whole(0)), axis), unknown},
		{"beside a dish", dish, from(at(0, 0, 8), at(4, 0, 1)), blocked}, {"past the side of a ball with terms", terms, beside(0, 5), blocked}, {"a step past it", terms, past(4*one + 1), unknown}, {"perhaps past it", terms, from(box(wholes(3, 5), whole(0), whole(0)), axis), unknown},
		{"along a plane", plane, from(at(0, 0, 0), at(1, 0, 0)), unknown}, {"along it, in it", plane, from(at(0, 0, 10), at(1, 0, 0)), unknown}, {"the other way", plane, from(at(0, 0, 20), at(0, 0, -1)), unknown}, {"perhaps the other way", plane, from(at(0, 0, 0), box(whole(0), whole(0), of(-1, one))), unknown}, {"no way", plane, from(at(0, 0, 0), at(0, 0, 0)), unknown},
		{"terms that lead too far", bentPlane, beside(90, 0), unknown}, {"along a plane with terms", bentPlane, from(at(0, 0, 0), at(1, 0, 0)), unknown}, {"a place that is past the bounds", plane, from(box(point(1), whole(0), whole(-118)), at(128, 0, 1)), unknown},
	}
}

// TestMissed: what surely does not meet the face is Blocked, of what may not nothing is said: of stops, too, and whatever the opening and the ratio.
func TestMissed(t *testing.T) {
	checkRows(t, missed())
	for _, r := range missed() {
		for _, open2 := range []api.Iv{whole(64), whole(0), whole(-1), of(0, 64*one), point(most), none, of(5, 4)} {
			for _, ratio := range []api.Iv{point(half), out, whole(1), whole(0), whole(200), none} {
				r.s = by(open(r.s, open2), ratio)
				checkTurned(t, []row{r, {r.what + ", of a stop", curved(r.s), r.r, r.want}})
			}
		}
	}
}

// edges are openings about a square of the distance that is exact, and what is told of each.
func edges(far int, s api.Surf, r api.Ray, want told) (l []row) {
	for _, open2 := range []api.Iv{point(far), of(far, far+1), of(far, far+9*one), point(far + 1), of(far+5, 2*far+9), point(most)} {
		l = append(l, row{"within the opening", open(s, open2), r, want})
	}
	for _, open2 := range []api.Iv{of(far-1, far), of(far-1, far+1), of(far-one, far), of(-most, most), of(far/2-1, most)} {
		l = append(l, row{"perhaps", open(s, open2), r, unknown})
	}
	for _, open2 := range []api.Iv{point(far - 1), of(far-5, far-1), of(-most, far-1), point(-1), point(-most), of(-9, far-2)} {
		l = append(l, row{"beyond the opening", open(s, open2), r, blocked})
	}
	for _, open2 := range wrong() {
		l = append(l, row{"no opening", open(s, open2), r, unknown})
	}
	return l
}

// TestOpening: by the square of the distance where the face is met: at the edges, exactly.
func TestOpening(t *testing.T) {
	for _, l := range [][]row{
		edges(0, plane, beside(0, 0), through(at(0, 0, 10), axis)), edges(9*one, plane, beside(3, 0), through(at(3, 0, 10), axis)), edges(25*one, plane, beside(3, -4), through(at(3, -4, 10), axis)), edges(64*one, stop(), beside(0, 8), through(at(0, 8, 10), axis)), edges(169*one, stop(), beside(12, 5), through(at(12, 5, 10), axis)),
		edges(16*one, stop(), from(at(1, 0, 0), at(3, 0, 10)), through(at(4, 0, 10), at(3, 0, 10))), edges(0, stop(), from(at(30, -10, 0), at(-3, 1, 1)), through(at(0, 0, 10), at(-3, 1, 1))), edges(5*one, plane, from(at(0, 0, 0), box(whole(2), whole(-1), whole(10))), through(at(2, -1, 10), box(whole(3), point(-98304), of(980305, 980306)))), edges(16*one, parabola, beside(4, 0), through(at(4, 0, 12), box(of(-26966, -26962), whole(0), of(59730, 59734)))),
		edges(16*one, curved(parabola), from(at(2, 0, 10), at(1, 0, 1)), through(at(4, 0, 12), at(1, 0, 1))), edges(9*one, face(quarter, -one, point(half)), beside(3, 0), through(at(3, 0, 11), box(of(-18128, -18125), whole(0), of(62977, 62981)))), edges(9*one, face(-quarter, -one, point(half)), beside(0, 3), through(at(0, 3, 9), box(whole(0), of(18125, 18128), of(62977, 62981)))), edges(16*one, curved(ball), beside(4, 0), through(at(4, 0, 14), axis)), edges(16*one, curved(parabola), from(at(0, 0, 13), at(4, 0, 1)), through(at(-4, 0, 12), at(4, 0, 1))),
		edges(2*one, ball, beside(1, 1), through(box(whole(1), whole(1), of(672289, 672292)), box(of(-8465, -8461), of(-8465, -8461), of(64431, 64437)))), edges(8*one, hollow, beside(2, -2), through(box(whole(2), whole(-2), of(578569, 578581)), box(of(19063, 19070), of(-19070, -19063), of(59726, 59738)))), edges(one, bentPlane, beside(1, 0), through(box(whole(1), whole(0), of(655368, 655369)), box(of(15, 18), whole(0), of(65533, 65539)))), edges(16*one, dish, beside(4, 0), through(box(whole(4), whole(0), of(788442, 788448)), box(of(-27346, -27335), whole(0), of(59557, 59565)))), edges(16*one, curved(dish), beside(4, 0), through(box(whole(4), whole(0), of(788442, 788448)), axis)),
	} {
		checkRows(t, l)
	}
}

// TestOpeningWide: the sum's Lo and Hi against Open2's, both ends of each.
func TestOpeningWide(t *testing.T) {
	wide := from(box(wholes(2, 4), wholes(-1, 1), whole(0)), axis) // 4 to 17
	on := through(box(wholes(2, 4), wholes(-1, 1), whole(10)), axis)
	for _, s := range []api.Surf{plane, stop(), by(plane, whole(1)), by(plane, whole(0))} {
		for _, r := range []struct {
			lo, hi int
			want   told
		}{
			{17 * one, 17 * one, on}, {17*one + 1, 17*one + 1, on}, {17 * one, 99 * one, on}, {17*one - 1, 17*one - 1, unknown}, {17*one - 1, 99 * one, unknown}, {9 * one, 9 * one, unknown}, {4 * one, 4 * one, unknown}, {4 * one, 17*one - 1, unknown}, {4*one - 1, 4 * one, unknown}, {4*one - 1, 17 * one, unknown}, {0, 4 * one, unknown}, {-most, most, unknown},
			{4*one - 1, 4*one - 1, blocked}, {0, 4*one - 1, blocked}, {-most, 4*one - 1, blocked}, {0, 0, blocked}, {-5, 3, blocked},
		} {
			checkRows(t, []row{{"wide", open(s, of(r.lo, r.hi)), wide, r.want}})
		}
	}
	about := from(box(wholes(-1, 1), whole(4), whole(0)), axis) // 16 to 17, though by products 15 to 17
	checkRows(t, []row{
		{"a square about 0", open(stop(), point(15*one+half)), about, blocked}, {"a square about 0", open(stop(), point(16*one-1)), about, blocked}, {"a square about 0", open(stop(), whole(16)), about, unknown}, {"a square about 0", open(stop(), whole(17)), about, through(box(wholes(-1, 1), whole(4), whole(10)), axis)},
		{"within as it starts, beyond where it is met", open(stop(), whole(9)), from(at(1, 0, 0), at(3, 0, 10)), blocked}, {"beyond as it starts", open(stop(), whole(9)), from(at(30, 0, 0), at(-3, 0, 1)), through(at(0, 0, 10), at(-3, 0, 1))}, {"within as deep as the vertex, beyond where it is met", open(parabola, whole(9)), from(at(2, 0, 10), at(1, 0, 1)), blocked}, {"beyond as deep as the vertex", open(curved(parabola), whole(17)), from(at(0, 0, 13), at(4, 0, 1)), through(at(-4, 0, 12), at(4, 0, 1))},
		{"no square", open(stop(), point(most)), from(at(0, 0, 0), at(13, 0, 1)), unknown}, {"no square, at the bounds of squares", open(stop(), point(most)), from(at(-2, 0, 0), at(13, 0, 1)), through(at(128, 0, 10), at(13, 0, 1))}, {"no sum", open(stop(), point(most)), from(at(0, 0, 0), at(10, 10, 1)), unknown}, {"a sum", open(stop(), point(most)), from(at(0, 0, 0), at(9, -9, 1)), through(at(90, -90, 10), at(9, -9, 1))},
		{"no square, the opening surely none", open(stop(), whole(-1)), from(at(0, 0, 0), at(13, 0, 1)), unknown},
	})
}

// TestPlace: O is p with Add(p.Z, At): as wide as that is.
func TestPlace(t *testing.T) {
	for _, n := range []int{0, 1, -1, 10, 300, -700, 4000, 16382, -16383} {
		for _, s := range []api.Surf{plane, stop(), bentPlane} {
			checkRows(t, []row{{"at a place", moved(s, whole(n)), from(at(0, 0, n-1), axis), through(at(0, 0, n), axis)}})
		}
		checkRows(t, []row{
			{"at a place", moved(curved(parabola), whole(n)), from(at(4, 0, n-1), axis), through(at(4, 0, n+2), axis)}, {"at a place", moved(curved(hollow), whole(n)), from(at(0, 0, n-1), axis), through(at(0, 0, n), axis)},
			{"between whole numbers", moved(stop(), point(n*one+77)), from(at(3, -2, n), at(0, 1, 1)), through(box(whole(3), point(-2*one+77), point(n*one+77)), at(0, 1, 1))},
		})
	}
	between := from(box(whole(1), whole(-2), wholes(0, 1)), axis)
	checkRows(t, []row{
		{"a wide start", stop(), between, through(box(whole(1), whole(-2), wholes(9, 11)), axis)}, {"a wide start, a face", plane, between, through(box(whole(1), whole(-2), wholes(9, 11)), axis)}, {"a wide vertex", moved(stop(), wholes(9, 11)), beside(1, 2), through(box(whole(1), whole(2), wholes(7, 13)), axis)}, {"both", moved(plane, wholes(9, 11)), between, through(box(whole(1), whole(-2), wholes(6, 14)), axis)},
		{"a wide way", stop(), from(at(0, 0, 0), box(whole(0), point(half), of(65000, one))), through(box(whole(0), of(327680, 330385), of(650000, 660770)), box(whole(0), point(32768), of(65000, 65536)))}, {"a wide vertex, a parabola", moved(parabola, wholes(9, 11)), beside(4, 0), through(box(whole(4), whole(0), wholes(9, 15)), box(of(-26966, -26962), whole(0), of(59730, 59734)))}, {"all wide", moved(dish, of(655000, 656000)), from(box(of(one, one+100), of(-2*one, -2*one+50), of(0, 33)), box(point(10000), of(-3000, -2990), of(64690, 64700))), through(box(of(185375, 185718), of(-167097, -166853), of(774240, 777964)), box(of(-15904, -15804), of(17225, 17314), of(61160, 61238)))},
		{"from behind", stop(), from(at(0, 0, 12), at(1, -1, 1)), through(at(-2, 2, 10), at(1, -1, 1))}, {"from it", stop(), from(at(5, 6, 10), at(1, 1, 1)), through(at(5, 6, 10), at(1, 1, 1))},
	})
}

// TestNoPlace: where Add(p.Z, At) is None nothing is said: asked behind the opening, and ahead of what the face does.
func TestNoPlace(t *testing.T) {
	far := func(s api.Surf, n int) api.Surf { return moved(s, whole(n)) }
	up := from(at(0, 0, 16300), box(whole(0), whole(0), of(one, one+1)))
	back := from(at(0, 0, 16300), box(of(39321, 39322), whole(0), of(52428, 52430)))
	low := from(at(0, 0, -16384), axis)
	checkRows(t, []row{
		{"past the bounds", far(plane, 16384), up, unknown}, {"a stop past them", far(stop(), 16384), up, unknown}, {"a face with terms past them", far(bentPlane, 16384), up, unknown}, {"at them", far(stop(), 16384), from(at(1, 2, 16383), axis), through(at(1, 2, 16384), axis)}, {"a face at them", far(plane, 16384), from(at(1, 2, 16383), axis), through(at(1, 2, 16384), axis)},
		{"a step from them", moved(stop(), point(most-1)), from(steps(0, 0, most-9), axis), through(steps(0, 0, most-1), axis)}, {"a parabola at them", moved(curved(parabola), whole(16382)), from(at(4, 0, 16382), axis), through(at(4, 0, 16384), axis)}, {"a step past them", moved(curved(parabola), point(16382*one+1)), from(at(4, 0, 16382), axis), unknown}, {"a parabola past them", far(curved(parabola), 16383), from(at(4, 0, 16382), axis), unknown}, {"below them", far(curved(face(-quarter, 0, out)), -16383), from(at(4, 0, -16384), axis), unknown}, {"at the lower ones", far(curved(face(-quarter, 0, out)), -16382), from(at(4, 0, -16384), axis), through(at(4, 0, -16384), axis)},
		{"a vertex at the lower ones", far(stop(), -16384), low, through(at(0, 0, -16384), axis)}, {"wide at the lower ones", far(stop(), -16384), from(box(whole(0), whole(0), of(-most, -most+1)), axis), unknown}, {"wide, and a step above", moved(stop(), point(-most+1)), from(box(whole(0), whole(0), of(-most, -most+1)), axis), through(box(whole(0), whole(0), of(-most, -most+2)), axis)},
		{"past them, and thrown back", open(by(far(plane, 16384), whole(2)), point(most)), back, unknown}, {"thrown back within them", open(by(far(plane, 16383), whole(2)), point(most)), back, blocked}, {"past them, and perhaps beyond the opening", open(far(plane, 16384), of(-1, 3)), up, unknown}, {"past them, and beyond the opening", open(far(plane, 16384), whole(-1)), up, blocked}, {"a stop past them, beyond the opening", open(far(stop(), 16384), whole(-1)), up, blocked}, {"past them, the ratio none", by(far(plane, 16384), none), up, unknown},
		{"far past a ball's side", far(ball, 16384), from(at(5, 0, 16383), axis), blocked},
	})
}

// TestStop: through a stop r's D goes as it was, of any length and as wide, whatever its Ratio, its curve and its terms.
func TestStop(t *testing.T) {
	for _, ratio := range append(wrong(), whole(1), whole(0), into, out, whole(-2), whole(2), whole(200), of(-most, most)) {
		s := by(stop(), ratio)
		checkRows(t, []row{
			{"along the axis", s, beside(1, -2), through(at(1, -2, 10), axis)}, {"a long way", s, from(at(1, 0, 0), at(1, 0, 10)), through(at(2, 0, 10), at(1, 0, 10))}, {"a short way", s, from(at(1, 0, 9), steps(128, -64, 256)), through(box(point(3*half), point(-quarter), whole(10)), steps(128, -64, 256))}, {"so aslant that it would be thrown back", s, from(at(-60, 100, 0), steps(3*one, -5*one, half)), through(at(0, 0, 10), steps(3*one, -5*one, half))},
			{"about 1 long", s, from(at(-7, 0, 0), aslant), through(box(of(32753, 32786), whole(0), of(655341, 655380)), aslant)}, {"wide", s, from(at(0, 0, 0), box(of(-3000, 2000), of(-1000, 5000), of(65300, one))), through(box(of(-30109, 20073), of(-10037, 50182), of(653000, 657734)), box(of(-3000, 2000), of(-1000, 5000), of(65300, 65536)))},
			{"a ball's side", curved(by(ball, ratio)), beside(4, 0), through(at(4, 0, 14), axis)}, {"a ball", curved(by(ball, ratio)), beside(2, -1), through(box(whole(2), whole(-1), of(700144, 700148)), axis)}, {"a parabola from within", curved(by(parabola, ratio)), from(at(0, 0, 11), at(4, 0, 1)), through(steps(-2*one, 0, 21*half), at(4, 0, 1))}, {"a dish", curved(by(dish, ratio)), from(at(1, -2, 0), steps(10000, -3000, 64697)), through(box(of(185472, 185475), of(-167054, -167052), of(775953, 775965)), steps(10000, -3000, 64697))},
			{"past a ball's side", curved(by(ball, ratio)), beside(5, 0), blocked}, {"perhaps past it", curved(by(ball, ratio)), from(box(wholes(3, 5), whole(0), whole(0)), axis), unknown}, {"beyond the opening", s, beside(8, 1), blocked}, {"perhaps beyond it", s, from(box(wholes(7, 9), whole(0), whole(0)), axis), unknown}, {"along it", s, from(at(0, 0, 0), at(1, 0, 0)), unknown},
		})
	}
}

// TestBends: through all else it goes the way that snell tells, by the way across the face there and by its ratio.
func TestBends(t *testing.T) {
	slant := steps(10000, -3000, 64697)
	for _, r := range []row{
		{"a plane, into glass", by(plane, into), from(at(-7, 0, 0), aslant), through(box(of(32753, 32786), whole(0), of(655341, 655380)), box(of(26213, 26215), whole(0), of(60062, 60068)))}, {"a plane, out of glass", plane, from(at(-7, 0, 0), aslant), through(box(of(32753, 32786), whole(0), of(655341, 655380)), box(of(58981, 58983), whole(0), of(28558, 28571)))}, {"a plane between equals", by(plane, whole(1)), from(at(-7, 0, 0), aslant), through(box(of(32753, 32786), whole(0), of(655341, 655380)), box(of(39321, 39322), whole(0), of(52426, 52431)))}, {"a plane by a half", by(plane, point(half)), from(at(1, 1, 9), at(1, 0, 1)), through(at(2, 1, 10), steps(32768, 0, 65536))}, {"a plane by 2", by(plane, whole(2)), from(at(1, 1, 9), at(1, 0, 1)), through(at(2, 1, 10), at(2, 0, 1))}, {"a plane by 0", by(plane, whole(0)), from(at(1, 1, 9), at(1, 0, 1)), through(at(2, 1, 10), axis)}, {"a plane by -2", by(plane, whole(-2)), from(at(1, 1, 9), at(1, 0, 1)), through(at(2, 1, 10), at(-2, 0, 1))},
		{"a ball's vertex", ball, beside(0, 0), through(at(0, 0, 10), axis)}, {"a ball, into glass", by(ball, into), beside(2, 1), through(box(whole(2), whole(1), of(700144, 700148)), box(of(-12297, -12292), of(-6149, -6145), of(64074, 64083)))}, {"a ball, out of glass", by(ball, out), beside(2, 1), through(box(whole(2), whole(1), of(700144, 700148)), box(of(22895, 22907), of(11447, 11454), of(60318, 60337)))}, {"a ball, aslant", by(ball, into), from(at(1, -2, 8), slant), through(box(of(95395, 95399), of(-140031, -140029), of(717467, 717489)), box(of(-3386, -3373), of(12737, 12755), of(64182, 64208)))}, {"a hollow, into glass", by(hollow, into), beside(2, 1), through(box(whole(2), whole(1), of(610566, 610581)), box(of(12289, 12299), of(6144, 6150), of(64069, 64087)))}, {"a hollow, out of glass", by(hollow, out), beside(2, 1), through(box(whole(2), whole(1), of(610566, 610581)), box(of(-22918, -22885), of(-11459, -11442), of(60298, 60355)))}, {"a hollow, aslant", by(hollow, out), from(at(1, -2, 8), slant), through(box(of(77878, 77880), of(-134776, -134774), of(604139, 604147)), box(of(2495, 2516), of(17105, 17141), of(63176, 63234)))}, {"a ball between equals", by(ball, whole(1)), beside(2, 1), through(box(whole(2), whole(1), of(700144, 700148)), box(of(-3, 3), of(-2, 2), of(65532, 65540)))},
		{"a ball's far side, from behind", by(ball, out), from(at(1, 0, 12), at(0, 0, -1)), through(box(whole(1), whole(0), of(1171323, 1171336)), box(of(8601, 8613), whole(0), of(-64989, -64948)))},
		{"a parabola, into glass", by(parabola, into), from(at(1, -2, 8), slant), through(box(of(94158, 94160), of(-139660, -139658), of(709467, 709475)), box(of(-1129, -1122), of(9553, 9562), of(64818, 64831)))}, {"a parabola, out of glass", by(parabola, out), from(at(1, -2, 8), slant), through(box(of(94158, 94160), of(-139660, -139658), of(709467, 709475)), box(of(32711, 32731), of(-30798, -30769), of(47684, 47736)))}, {"Conic of -2", by(face(-quarter, -2*one, out), into), from(at(1, -2, 8), slant), through(box(of(79511, 79513), of(-135265, -135264), of(614706, 614710)), box(of(11433, 11439), of(-10119, -10109), of(63723, 63742)))}, {"Conic of 1/2", by(face(quarter, half, out), into), from(at(1, -2, 8), slant), through(box(of(94689, 94692), of(-139819, -139817), of(712900, 712913)), box(of(-2047, -2039), of(10854, 10866), of(64587, 64606)))}, {"Conic of 2", by(face(-quarter, 2*one, out), out), from(at(0, -1, 8), slant), through(box(of(18597, 18599), of(-71116, -71115), of(644608, 644618)), box(of(12452, 12459), of(5217, 5240), of(64087, 64162)))},
		{"a dish, into glass", by(dish, into), from(at(1, -2, 8), slant), through(box(of(94239, 94241), of(-139684, -139682), of(709989, 709998)), box(of(-1251, -1242), of(9722, 9735), of(64789, 64805)))}, {"a dish, out of glass", by(dish, out), from(at(1, -2, 8), slant), through(box(of(94239, 94241), of(-139684, -139682), of(709989, 709998)), box(of(33470, 33507), of(-31930, -31877), of(46380, 46467)))}, {"a plane with terms", by(bentPlane, into), beside(7, -3), through(box(whole(7), whole(-3), of(682916, 682932)), box(of(-4404, -4396), of(1884, 1888), of(65354, 65367)))}, {"a ball with terms", bent(quarter, one, 1000, -3000, into), beside(2, 1), through(box(whole(2), whole(1), of(701752, 701764)), box(of(-12991, -12973), of(-6496, -6486), of(63899, 63918)))}, {"a hollow with terms", bent(-quarter, one, -1000, 3000, out), beside(2, 1), through(box(whole(2), whole(1), of(608956, 608968)), box(of(-25117, -25067), of(-12559, -12533), of(59199, 59257)))}, {"terms of 0", bent(quarter, one, 0, 0, into), beside(2, 1), through(box(whole(2), whole(1), of(700145, 700146)), box(of(-12299, -12290), of(-6150, -6144), of(64073, 64084)))},
		{"a wide ray", by(ball, into), from(box(of(one, one+300), of(-2*one, -2*one+50), of(0, 33)), box(of(0, 90), of(-3000, -2990), of(65440, 65470))), through(box(of(65536, 66835), of(-164353, -164013), of(722055, 726331)), box(of(-7148, -6380), of(14120, 15583), of(62416, 64549)))}, {"a wide ray, a dish", by(dish, into), from(box(of(one, one+300), of(-2*one, -2*one+50), of(0, 33)), box(of(0, 90), of(-3000, -2990), of(65440, 65470))), through(box(of(65536, 66821), of(-163882, -163684), of(714852, 716038)), box(of(-5392, -5186), of(11105, 11228), of(64272, 64439)))}, {"a wide ratio", by(hollow, of(43000, 44000)), beside(1, 1), through(box(whole(1), whole(1), of(638423, 638442)), box(of(5623, 5884), of(5623, 5884), of(64040, 66017)))}, {"a wide curve", api.Surf{Curve: of(1310, 1311), Conic: whole(1), At: whole(10), Open2: whole(64), Ratio: into}, beside(3, 2), through(box(whole(3), whole(2), of(663778, 664001)), box(of(-1315, -1311), of(-877, -874), of(65504, 65529)))},
	} {
		checkRows(t, []row{r})
	}
}

// TestThrown: all that is thrown back is Blocked, of what may be nothing is said.
func TestThrown(t *testing.T) {
	odd := face(-168, 57*one, point(half))
	low, steep := steps(0, 0, 64768), open(bent(0, one, 502, -4090, point(half)), whole(144))
	for _, s := range []api.Surf{plane, bentPlane, ball, hollow, parabola, dish} {
		for _, ratio := range []api.Iv{point(429343), of(429343, 429400), point(-429343), whole(8)} {
			checkRows(t, []row{{"thrown back", by(s, ratio), from(at(0, 0, 10), low), blocked}})
		}
		for _, ratio := range append(wrong(), point(429340), of(429339, 429340), of(429339, 429343), of(-429340, 0), whole(129), of(-most, most)) {
			checkRows(t, []row{{"perhaps, or no ratio", by(s, ratio), from(at(0, 0, 10), low), unknown}})
		}
		for _, ratio := range []api.Iv{point(429339), point(429336), point(-429339)} {
			checkRows(t, []row{{"a step from that", by(s, ratio), from(at(0, 0, 10), low), through(at(0, 0, 10), box(whole(0), whole(0), of(-1, 257)))}})
		}
	}
	checkRows(t, []row{
		{"a plane", by(plane, whole(2)), from(at(-7, 0, 0), aslant), blocked}, {"a plane, perhaps", by(plane, wholes(1, 2)), from(at(-7, 0, 0), aslant), unknown}, {"a ball", by(ball, out), beside(3, 0), blocked}, {"a ball, perhaps", by(ball, out), from(box(wholes(2, 3), whole(0), whole(0)), axis), unknown}, {"a ball, not", by(ball, out), beside(2, 0), through(box(whole(2), whole(0), of(690480, 690483)), box(of(20887, 20900), whole(0), of(62106, 62127)))}, {"a hollow", by(hollow, out), beside(0, 3), blocked}, {"a parabola", by(parabola, out), beside(4, 0), blocked}, {"a parabola, not", by(parabola, out), beside(3, 0), through(steps(196608, 0, 729088), box(of(30043, 30051), whole(0), of(58236, 58247)))}, {"a dish", by(dish, out), beside(6, 0), blocked}, {"a ball with terms", by(bent(quarter, one, 100, 0, out), out), beside(3, 0), blocked}, {"a plane with terms that lead too far", open(bentPlane, whole(900)), beside(0, 30), unknown}, {"a plane with terms", bent(0, one, 3500, 0, out), beside(0, 3), through(box(whole(0), whole(3), of(673887, 673951)), box(whole(0), of(12837, 12885), of(64227, 64295)))}, {"a plane with terms, steeper", bent(0, one, 3500, 0, whole(2)), beside(4, 0), blocked},
		{"along a ball's side", ball, beside(4, 0), unknown}, {"from behind", steep, from(steps(622592, 0, 10*one), steps(-159744, 0, 16384)), unknown}, {"from behind, where it would be thrown back", by(steep, whole(9)), from(steps(622592, 0, 10*one), steps(-159744, 0, 16384)), unknown}, {"a stop from behind", curved(steep), from(steps(622592, 0, 10*one), steps(-159744, 0, 16384)), through(box(of(734017, 734059), whole(0), of(643927, 643932)), steps(-159744, 0, 16384))}, {"perhaps along the side", ball, from(box(of(4*one-9, 4*one), whole(0), whole(0)), axis), unknown}, {"no way across", odd, from(box(wholes(-5, 5), whole(0), wholes(2, 5)), box(whole(0), whole(0), of(61440, one))), unknown}, {"a stop without one", curved(odd), from(box(wholes(-5, 5), whole(0), wholes(2, 5)), box(whole(0), whole(0), of(61440, one))), through(box(wholes(-5, 5), whole(0), of(152256, 19382714)), box(whole(0), whole(0), of(61440, 65536)))},
		{"beyond the opening, and perhaps thrown back", open(by(ball, out), whole(3)), from(box(wholes(2, 3), whole(0), whole(0)), axis), blocked}, {"beyond the opening, no ratio", open(by(ball, none), whole(3)), beside(2, 0), blocked}, {"perhaps beyond it, and thrown back", open(by(plane, whole(2)), of(0, one)), from(at(-7, 0, 0), aslant), unknown}, {"no opening, and thrown back", open(by(plane, whole(2)), none), from(at(-7, 0, 0), aslant), unknown}, {"beyond it, and thrown back", open(by(plane, whole(2)), of(0, 3)), from(at(-7, 0, 0), aslant), blocked},
	})
}

// what Go asks, one behind the other.
const (
	isMet = iota
	isOpen
	isPlace
	isBent
)

// placing and bending are how O and D are reckoned: t and p are what hit.Of tells, o is where p is.
type (
	placing = func(s api.Surf, r api.Ray, t api.Iv, p api.V) api.V
	bending = func(s api.Surf, d, o, p api.V) (api.V, api.Tri)
)

// ways are how the answer is reckoned.
type ways struct {
	far   func(r api.Ray, p api.V) api.Iv // what is held against the opening
	open  func(far, open2 api.Iv) api.Tri
	place placing
	right func(o api.V) api.Tri
	bend  bending
	order []int
	kind  func(asked int, is api.Tri) int // what becomes of what does not go on
	lost  func(o, d api.V) api.Ray
}

// written are the ways as the chapter writes them.
func written() ways {
	return ways{
		far: func(_ api.Ray, p api.V) api.Iv { return iv.Add(iv.Sqr(p.X), iv.Sqr(p.Y)) }, open: tri.NotAbove,
		place: func(s api.Surf, _ api.Ray, _ api.Iv, p api.V) api.V { return box(p.X, p.Y, iv.Add(p.Z, s.At)) },
		right: func(o api.V) api.Tri {
			if o.Z.No {
				return api.Unsure
			}
			return api.Yes
		},
		bend: func(s api.Surf, d, _, p api.V) (api.V, api.Tri) {
			if s.Stop {
				return d, api.Yes
			}
			return snell.Bend(d, normal.Of(s, p), s.Ratio)
		},
		order: []int{isMet, isOpen, isPlace, isBent},
		kind: func(_ int, is api.Tri) int {
			if is == api.No {
				return api.Blocked
			}
			return api.Unknown
		},
		lost: func(_, _ api.V) api.Ray { return blocked.r },
	}
}

// said is what Go ought to answer, by the ways.
func (w ways) said(s api.Surf, r api.Ray) told {
	t, p, is := hit.Of(s, r)
	o, d, asked := nones, nones, [4]api.Tri{isMet: is}
	if is == api.Yes {
		asked[isOpen] = w.open(w.far(r, p), s.Open2)
		o = w.place(s, r, t, p)
		asked[isPlace] = w.right(o)
		d, asked[isBent] = w.bend(s, r.D, o, p)
	}
	for _, k := range w.order {
		if asked[k] != api.Yes {
			return told{w.lost(o, d), w.kind(k, asked[k])}
		}
	}
	return through(o, d)
}

// openings are ways to hold a place against the opening that differ from the chapter's.
func openings() map[string]func(w *ways) {
	far := func(f func(r api.Ray, p api.V) api.Iv) func(w *ways) { return func(w *ways) { w.far = f } }
	held := func(f func(far, open2 api.Iv) api.Tri) func(w *ways) { return func(w *ways) { w.open = f } }
	// to is tri.NotAbove of one number for the one, and of one for the other.
	to := func(f, g func(a api.Iv) int) func(w *ways) {
		return held(func(far, open2 api.Iv) api.Tri {
			if !iv.Right(far) || !iv.Right(open2) {
				return api.Unsure
			}
			return tri.NotAbove(point(f(far)), point(g(open2)))
		})
	}
	lo, hi := func(a api.Iv) int { return a.Lo }, func(a api.Iv) int { return a.Hi }
	return map[string]func(w *ways){
		"from where the ray starts": far(func(r api.Ray, _ api.V) api.Iv { return iv.Add(iv.Sqr(r.O.X), iv.Sqr(r.O.Y)) }),
		"by products":               far(func(_ api.Ray, p api.V) api.Iv { return iv.Add(iv.Mul(p.X, p.X), iv.Mul(p.Y, p.Y)) }),
		"by X's product":            far(func(_ api.Ray, p api.V) api.Iv { return iv.Add(iv.Mul(p.X, p.X), iv.Sqr(p.Y)) }),
		"by Y's product":            far(func(_ api.Ray, p api.V) api.Iv { return iv.Add(iv.Sqr(p.X), iv.Mul(p.Y, p.Y)) }),
		"by X alone":                far(func(_ api.Ray, p api.V) api.Iv { return iv.Sqr(p.X) }),
		"by Y alone":                far(func(_ api.Ray, p api.V) api.Iv { return iv.Sqr(p.Y) }),
		"by all three":              far(func(_ api.Ray, p api.V) api.Iv { return vec.Len2(p) }),
		"by X and Y each alone":     far(func(_ api.Ray, p api.V) api.Iv { return iv.Hull(iv.Sqr(p.X), iv.Sqr(p.Y)) }),
		"by the sum's square":       far(func(_ api.Ray, p api.V) api.Iv { return iv.Sqr(iv.Add(p.X, p.Y)) }),
		"by roots":                  held(func(far, open2 api.Iv) api.Tri { return tri.NotAbove(iv.Root(far), iv.Root(open2)) }),
		"by the root of the sum":    held(func(far, open2 api.Iv) api.Tri { return tri.NotAbove(iv.Root(far), open2) }),
		"by the opening's square":   held(func(far, open2 api.Iv) api.Tri { return tri.NotAbove(far, iv.Sqr(open2)) }),
		"below it alone":            held(tri.Less),
		"the other way round":       held(func(far, open2 api.Iv) api.Tri { return tri.NotAbove(open2, far) }),
		"above it":                  held(func(far, open2 api.Iv) api.Tri { return tri.Not(tri.NotAbove(far, open2)) }),
		"surely not above, or No":   held(func(far, open2 api.Iv) api.Tri { return sure(tri.NotAbove(far, open2) == api.Yes) }),
		"surely above, or Yes":      held(func(far, open2 api.Iv) api.Tri { return sure(tri.NotAbove(far, open2) != api.No) }),
		"none lets all through":     held(func(far, open2 api.Iv) api.Tri { return tri.Or(sure(!iv.Right(open2)), tri.NotAbove(far, open2)) }),
		"none lets nothing through": held(func(far, open2 api.Iv) api.Tri { return tri.And(sure(iv.Right(open2)), tri.NotAbove(far, open2)) }),
		"no sum is beyond it":       held(func(far, open2 api.Iv) api.Tri { return tri.And(sure(iv.Right(far)), tri.NotAbove(far, open2)) }),
		"a step more":               held(func(far, open2 api.Iv) api.Tri { return tri.NotAbove(far, iv.Add(open2, point(1))) }),
		"Lo by Lo":                  to(lo, lo),
		"Lo by Hi":                  to(lo, hi),
		"Hi by Lo":                  to(hi, lo),
		"Hi by Hi":                  to(hi, hi),
		"middle by middle":          to(iv.Mid, iv.Mid),
		"no opening at all":         held(func(_, _ api.Iv) api.Tri { return api.Yes }),
		"no opening, but for a sum": held(func(far, _ api.Iv) api.Tri { return tri.Or(api.Unsure, sure(iv.Right(far))) }),
		"one, if it is none":        held(func(far, open2 api.Iv) api.Tri { return tri.NotAbove(far, iv.Of(open2.Lo, open2.Hi)) }),
		"never below 0":             held(func(far, open2 api.Iv) api.Tri { return tri.NotAbove(far, iv.Meet(open2, of(0, most))) }),
	}
}

// sure is Yes or No.
func sure(is bool) api.Tri {
	if is {
		return api.Yes
	}
	return api.No
}

// places are ways of O that differ from the chapter's.
func places() map[string]placing {
	z := func(f func(s api.Surf, r api.Ray, t api.Iv, p api.V) api.Iv) placing {
		return func(s api.Surf, r api.Ray, t api.Iv, p api.V) api.V { return box(p.X, p.Y, f(s, r, t, p)) }
	}
	deep := func(s api.Surf, p api.V) api.Iv {
		z, _ := sag.Of(s, iv.Add(iv.Sqr(p.X), iv.Sqr(p.Y)))
		return z
	}
	return map[string]placing{
		"along the ray":          func(_ api.Surf, r api.Ray, t api.Iv, _ api.V) api.V { return vec.Along(r, t) },
		"from the vertex on":     func(_ api.Surf, _ api.Ray, _ api.Iv, p api.V) api.V { return p },
		"At taken":               z(func(s api.Surf, _ api.Ray, _ api.Iv, p api.V) api.Iv { return iv.Sub(p.Z, s.At) }),
		"where it starts":        func(_ api.Surf, r api.Ray, _ api.Iv, _ api.V) api.V { return r.O },
		"the vertex's":           z(func(s api.Surf, _ api.Ray, _ api.Iv, _ api.V) api.Iv { return s.At }),
		"as deep as sag tells":   z(func(s api.Surf, _ api.Ray, _ api.Iv, p api.V) api.Iv { return iv.Add(deep(s, p), s.At) }),
		"as narrow as sag tells": z(func(s api.Surf, _ api.Ray, _ api.Iv, p api.V) api.Iv { return iv.Add(iv.Meet(deep(s, p), p.Z), s.At) }),
		"as narrow as along": z(func(s api.Surf, r api.Ray, t api.Iv, p api.V) api.Iv {
			return iv.Meet(vec.Along(r, t).Z, iv.Add(p.Z, s.At))
		}),
		"At's middle": z(func(s api.Surf, _ api.Ray, _ api.Iv, p api.V) api.Iv { return iv.Add(p.Z, point(iv.Mid(s.At))) }),
		"within the bounds": z(func(s api.Surf, _ api.Ray, _ api.Iv, p api.V) api.Iv {
			return of(max(p.Z.Lo+s.At.Lo, -most), min(p.Z.Hi+s.At.Hi, most))
		}),
		"from the start's Z on":        z(func(_ api.Surf, r api.Ray, _ api.Iv, p api.V) api.Iv { return iv.Add(p.Z, r.O.Z) }),
		"X and Y from where it starts": func(s api.Surf, r api.Ray, t api.Iv, p api.V) api.V { return box(r.O.X, r.O.Y, iv.Add(p.Z, s.At)) },
	}
}

// bends are ways of D that differ from the chapter's.
func bends() map[string]bending {
	bend := written().bend
	// face is what is done at a face, a stop being as it is.
	face := func(f bending) bending {
		return func(s api.Surf, d, o, p api.V) (api.V, api.Tri) {
			if s.Stop {
				return d, api.Yes
			}
			return f(s, d, o, p)
		}
	}
	across := func(f func(s api.Surf, o, p api.V) api.V) bending {
		return face(func(s api.Surf, d, o, p api.V) (api.V, api.Tri) { return snell.Bend(d, f(s, o, p), s.Ratio) })
	}
	back := func(a api.V) api.V { return box(iv.Neg(a.X), iv.Neg(a.Y), iv.Neg(a.Z)) }
	faced := func(s api.Surf) api.Surf {
		s.Stop = false
		return s
	}
	// straight is bend but where f holds, and there d as it is.
	straight := func(f func(s api.Surf) bool) bending {
		return func(s api.Surf, d, o, p api.V) (api.V, api.Tri) {
			if f(s) {
				return d, api.Yes
			}
			return bend(faced(s), d, o, p)
		}
	}
	return map[string]bending{
		"across at O":          across(func(s api.Surf, o, _ api.V) api.V { return normal.Of(s, o) }),
		"across the other way": across(func(s api.Surf, _, p api.V) api.V { return back(normal.Of(s, p)) }),
		"across without terms": across(func(s api.Surf, _, p api.V) api.V {
			s.Bent = false
			return normal.Of(s, p)
		}),
		"across by the slope": across(func(s api.Surf, _, p api.V) api.V {
			s.Bent = true
			return normal.Of(s, p)
		}),
		"across a ball": across(func(s api.Surf, _, p api.V) api.V {
			s.Conic = whole(1)
			return normal.Of(s, p)
		}),
		"across a plane": across(func(_ api.Surf, _, _ api.V) api.V { return axis }),
		"across, not 1 long": across(func(s api.Surf, _, p api.V) api.V {
			if n := normal.Of(s, p); !n.Z.No {
				return vec.Scale(n, iv.Div(whole(1), n.Z))
			}
			return nones
		}),
		"across at a lower Z":  across(func(s api.Surf, _, p api.V) api.V { return normal.Of(s, box(p.X, p.Y, whole(0))) }),
		"across and d changed": face(func(s api.Surf, d, _, p api.V) (api.V, api.Tri) { return snell.Bend(normal.Of(s, p), d, s.Ratio) }),
		"the other ratio": face(func(s api.Surf, d, _, p api.V) (api.V, api.Tri) {
			return snell.Bend(d, normal.Of(s, p), iv.Div(whole(1), s.Ratio))
		}),
		"the ratio's middle": face(func(s api.Surf, d, _, p api.V) (api.V, api.Tri) {
			if !iv.Right(s.Ratio) {
				return nones, api.Unsure
			}
			return snell.Bend(d, normal.Of(s, p), point(iv.Mid(s.Ratio)))
		}),
		"d 1 long": face(func(s api.Surf, d, o, p api.V) (api.V, api.Tri) { return bend(s, vec.Unit(d), o, p) }),
		"1 long behind": face(func(s api.Surf, d, o, p api.V) (api.V, api.Tri) {
			a, is := bend(s, d, o, p)
			if a = vec.Unit(a); is == api.Yes && !vec.Right(a) {
				return nones, api.Unsure
			}
			return a, is
		}),
		"from behind the other way": face(func(s api.Surf, d, _, p api.V) (api.V, api.Tri) {
			n := normal.Of(s, p)
			if g := vec.Dot(d, n); iv.Right(g) && g.Hi < 0 {
				n = back(n)
			}
			return snell.Bend(d, n, s.Ratio)
		}),
		"thrown back": face(func(s api.Surf, d, o, p api.V) (api.V, api.Tri) {
			a, is := bend(s, d, o, p)
			if n := normal.Of(s, p); is == api.No {
				return vec.Sub(d, vec.Scale(n, iv.Times(vec.Dot(d, n), 2))), api.Yes
			}
			return a, is
		}),
		"straight on, where it is thrown back": face(func(s api.Surf, d, o, p api.V) (api.V, api.Tri) {
			a, is := bend(s, d, o, p)
			if is == api.No {
				return d, api.Yes
			}
			return a, is
		}),
		"straight on, where nothing is said": face(func(s api.Surf, d, o, p api.V) (api.V, api.Tri) {
			a, is := bend(s, d, o, p)
			if is == api.Unsure {
				return d, api.Yes
			}
			return a, is
		}),
		"straight on":                      straight(func(_ api.Surf) bool { return true }),
		"straight on between equals":       straight(func(s api.Surf) bool { return s.Stop || s.Ratio == whole(1) }),
		"straight on without a ratio":      straight(func(s api.Surf) bool { return s.Stop || !iv.Right(s.Ratio) }),
		"straight on through a plane":      straight(func(s api.Surf) bool { return s.Stop || !s.Bent && s.Curve == whole(0) }),
		"a stop with a curve bends":        straight(func(s api.Surf) bool { return s.Stop && s.Curve == whole(0) }),
		"a stop with a ratio bends":        straight(func(s api.Surf) bool { return s.Stop && s.Ratio == whole(1) }),
		"a stop with terms bends":          straight(func(s api.Surf) bool { return s.Stop && !s.Bent }),
		"straight on where a ratio is One": straight(func(s api.Surf) bool { return s.Stop || iv.Has(s.Ratio, one) }),
		"a stop bends":                     func(s api.Surf, d, o, p api.V) (api.V, api.Tri) { return bend(faced(s), d, o, p) },
		"a stop's way is asked": func(s api.Surf, d, o, p api.V) (api.V, api.Tri) {
			a, is := bend(faced(s), d, o, p)
			if s.Stop && is == api.Yes {
				return d, is
			}
			return a, is
		},
		"a stop's way 1 long": func(s api.Surf, d, o, p api.V) (api.V, api.Tri) {
			if s.Stop {
				return vec.Unit(d), api.Yes
			}
			return bend(s, d, o, p)
		},
		"a stop by 1": func(s api.Surf, d, o, p api.V) (api.V, api.Tri) {
			if s.Stop {
				return snell.Bend(d, normal.Of(s, p), whole(1))
			}
			return bend(s, d, o, p)
		},
	}
}

// kinds are what is answered otherwise than in the chapter.
func kinds() map[string]func(w *ways) {
	m := map[string]func(w *ways){}
	for asked, name := range map[int]string{isMet: "met", isOpen: "within the opening", isPlace: "a place", isBent: "bent"} {
		for _, is := range []api.Tri{api.No, api.Unsure} {
			m["otherwise where it is "+[3]string{"perhaps ", "", "not "}[is]+name] = func(w *ways) {
				kind := w.kind
				w.kind = func(k int, found api.Tri) int {
					if k == asked && found == is {
						return api.Blocked + api.Unknown - kind(k, found)
					}
					return kind(k, found)
				}
			}
		}
	}
	// A place is there, or Unsure: never No.
	delete(m, "otherwise where it is not a place")
	for name, order := range map[string][]int{
		"the place ahead of the opening": {isMet, isPlace, isOpen, isBent}, "the way ahead of the opening": {isMet, isBent, isOpen, isPlace}, "the place at the end": {isMet, isOpen, isBent, isPlace}, "the way, then the place": {isMet, isBent, isPlace, isOpen}, "the place, then the way": {isMet, isPlace, isBent, isOpen},
		"the place is not asked": {isMet, isOpen, isBent}, "the opening is not asked": {isMet, isPlace, isBent},
	} {
		m[name] = func(w *ways) { w.order = order }
	}
	m["the opening ahead of all"] = func(w *ways) {
		w.order = []int{isOpen, isMet, isPlace, isBent}
	}
	m["zeros beside what does not go on"] = func(w *ways) { w.lost = func(_, _ api.V) api.Ray { return api.Ray{} } }
	m["O beside what does not go on"] = func(w *ways) { w.lost = func(o, _ api.V) api.Ray { return from(o, nones) } }
	m["D beside what does not go on"] = func(w *ways) { w.lost = func(_, d api.V) api.Ray { return from(nones, d) } }
	m["an open stop"] = func(w *ways) {
		bend := w.bend
		w.order = []int{isMet, isPlace, isBent}
		w.bend = func(s api.Surf, d, o, p api.V) (api.V, api.Tri) {
			if is := tri.NotAbove(w.far(from(o, d), p), s.Open2); !s.Stop && is != api.Yes {
				return nones, is
			}
			return bend(s, d, o, p)
		}
	}
	return m
}

// otherwise are ways that differ in one part from those of the chapter.
func otherwise() map[string]ways {
	m := map[string]ways{}
	add := func(name string, turn func(w *ways)) {
		w := written()
		turn(&w)
		m[name] = w
	}
	for name, turn := range openings() {
		add("the opening: "+name, turn)
	}
	for name, f := range places() {
		add("the place: "+name, func(w *ways) { w.place = f })
	}
	for name, f := range bends() {
		add("the way: "+name, func(w *ways) { w.bend = f })
	}
	for name, turn := range kinds() {
		add("told: "+name, turn)
	}
	return m
}

// orders are the rows of TestOrder.
func orders() []row {
	wide := from(box(of(one, one+900), of(-2*one, -2*one+150), of(0, 133)), box(of(9000, 10000), of(-3000, -2990), of(64690, 64700)))
	narrow := from(box(of(one, one+300), of(-2*one, -2*one+50), of(0, 33)), box(of(0, 90), of(-3000, -2990), of(65440, 65470)))
	about := from(box(wholes(-1, 1), whole(0), whole(0)), axis)
	up := from(at(0, 0, 16300), box(whole(0), whole(0), of(one, one+1)))
	back := from(at(0, 0, 16300), box(of(39321, 39322), whole(0), of(52428, 52430)))
	steep := from(steps(622592, 0, 10*one), steps(-159744, 0, 16384))
	far := func(s api.Surf) api.Surf { return open(moved(s, whole(16384)), point(most)) }
	return []row{
		{"a ball, wide", by(moved(ball, of(655000, 656000)), of(43000, 44000)), narrow, through(box(of(65536, 66841), of(-164569, -163823), of(716902, 732039)), box(of(-7957, -5715), of(12423, 17627), of(59339, 67790)))}, {"a dish, wide", by(moved(dish, of(655000, 656000)), of(64000, 66000)), wide, through(box(of(172007, 186637), of(-167133, -166294), of(764296, 778830)), box(of(6365, 11679), of(-4462, -748), of(60967, 68486)))}, {"a hollow, wide", moved(hollow, of(655000, 656000)), wide, through(box(of(137675, 154950), of(-157626, -154888), of(517522, 573814)), box(of(19486, 34648), of(-31660, -18355), of(45915, 66783)))}, {"Conic of -2", face(-quarter, -2*one, into), wide, through(box(of(146358, 157011), of(-158245, -157773), of(580935, 586150)), box(of(12518, 15272), of(-10674, -9021), of(60970, 65657)))}, {"a stop", stop(), wide, through(box(of(156679, 167745), of(-161465, -161201), of(655120, 655600)), box(of(9000, 10000), of(-3000, -2990), of(64690, 64700)))}, {"a stop with a curve", curved(by(hollow, out)), wide, through(box(of(139824, 152344), of(-156845, -155602), of(533968, 555956)), box(of(9000, 10000), of(-3000, -2990), of(64690, 64700)))}, {"a stop with a curve and terms", curved(by(dish, whole(1))), wide, through(box(of(172067, 186521), of(-167098, -166314), of(765727, 777082)), box(of(9000, 10000), of(-3000, -2990), of(64690, 64700)))}, {"a stop with terms, and a ratio", by(curved(bentPlane), whole(2)), from(at(-7, 0, 0), aslant), through(box(of(32758, 32783), whole(0), of(655346, 655375)), aslant)}, {"a plane between equals", by(plane, whole(1)), from(at(-7, 0, 0), aslant), through(box(of(32753, 32786), whole(0), of(655341, 655380)), box(of(39321, 39322), whole(0), of(52426, 52431)))}, {"a long way", by(plane, whole(2)), from(at(1, 1, 9), at(1, 0, 1)), through(at(2, 1, 10), at(2, 0, 1))},
		{"past a ball's side", open(ball, none), beside(5, 0), blocked}, {"past it, nothing open", open(ball, whole(-1)), beside(4, 1), blocked}, {"a step past it", open(ball, whole(-1)), from(steps(4*one+1, 0, 0), axis), unknown}, {"at a ball's side", ball, beside(4, 0), unknown}, {"a stop at a ball's side", curved(ball), beside(4, 0), through(at(4, 0, 14), axis)},
		{"within the opening", open(plane, whole(16)), beside(4, 0), through(at(4, 0, 10), axis)}, {"beyond it by a step", open(plane, point(16*one-1)), beside(4, 0), blocked}, {"beyond it in Y", open(stop(), whole(9)), beside(0, 4), blocked}, {"beyond it in both", open(stop(), whole(16)), beside(3, 3), blocked}, {"unlike X and Y", open(stop(), whole(17)), beside(3, -3), blocked}, {"within it, and deep", open(curved(parabola), whole(16)), beside(4, 0), through(at(4, 0, 12), axis)},
		{"a square about 0", open(stop(), of(0, 0)), about, unknown}, {"a square about 0, the opening below it", open(stop(), point(-1)), about, blocked}, {"about 0, turned", open(stop(), point(-1)), motion(about, 1), blocked}, {"perhaps within the opening", open(plane, of(15*one, 16*one)), beside(4, 0), unknown}, {"surely beyond it", open(plane, of(15*one, 16*one-1)), beside(4, 0), blocked}, {"wide, perhaps", open(plane, whole(16)), from(box(wholes(3, 5), whole(0), whole(0)), axis), unknown}, {"wide, the opening too", open(plane, of(10*one, 20*one)), from(box(wholes(3, 5), whole(0), whole(0)), axis), unknown}, {"no opening", open(plane, none), beside(0, 0), unknown}, {"no opening that is right", open(plane, api.Iv{Lo: 64 * one, Hi: 64 * one, No: true}), beside(0, 0), unknown}, {"no sum", open(stop(), whole(-1)), from(at(0, 0, 0), at(13, 0, 1)), unknown}, {"no opening, and none across", open(by(plane, none), none), beside(0, 0), unknown},
		{"beyond as it starts", open(stop(), whole(9)), from(at(30, 0, 0), at(-3, 0, 1)), through(at(0, 0, 10), at(-3, 0, 1))}, {"thrown back", by(plane, whole(2)), from(at(-7, 0, 0), aslant), blocked}, {"perhaps thrown back", by(plane, wholes(1, 2)), from(at(-7, 0, 0), aslant), unknown}, {"no ratio", by(plane, none), beside(1, 0), unknown}, {"a ratio about 1", by(plane, of(one-9, one+9)), from(at(-7, 0, 0), aslant), through(box(of(32753, 32786), whole(0), of(655341, 655380)), box(of(39315, 39328), whole(0), of(52406, 52451)))},
		{"from behind", open(bent(0, one, 502, -4090, point(half)), whole(144)), steep, unknown}, {"a stop from behind", curved(open(bent(0, one, 502, -4090, point(half)), whole(144))), steep, through(box(of(734017, 734059), whole(0), of(643927, 643932)), steps(-159744, 0, 16384))},
		{"no place", far(plane), up, unknown}, {"a stop without one", far(stop()), up, unknown}, {"none, and thrown back", by(far(plane), whole(2)), back, unknown}, {"none, and beyond the opening", open(far(plane), whole(-1)), up, blocked}, {"none, and perhaps beyond it", open(far(plane), of(-1, 1)), up, unknown}, {"a place at the bounds", far(stop()), from(at(1, 2, 16383), axis), through(at(1, 2, 16384), axis)},
		{"perhaps beyond the opening, and thrown back", open(by(plane, whole(2)), of(0, one)), from(at(-7, 0, 0), aslant), unknown}, {"beyond the opening, and no ratio", open(by(plane, none), whole(0)), beside(1, 0), blocked}, {"a stop beyond its opening", open(stop(), whole(0)), beside(1, 0), blocked},
	}
}

// TestOrder: the calls are done as they are written: at these inputs each other way tells another answer.
func TestOrder(t *testing.T) {
	rows := orders()
	checkRows(t, rows)
	for name, w := range otherwise() {
		same := 0
		for _, r := range rows {
			if w.said(r.s, r.r) == r.want {
				same++
			}
		}
		if same == len(rows) {
			t.Errorf("18.1: %q tells the same of every row", name)
		}
	}
}

// wrong are intervals that are not right: No, an end that is not In, Lo above Hi.
func wrong() []api.Iv {
	l := []api.Iv{
		none, {Lo: 1, Hi: 2, No: true}, {Lo: 0, Hi: one, No: true}, {Lo: one, Hi: one, No: true}, {Lo: most, Hi: most, No: true}, {Lo: 5, Hi: -5, No: true}, {Lo: math.MinInt, Hi: math.MaxInt, No: true},
		of(1, 0), of(0, -1), of(one+1, one), of(most, -most), of(most, most-1), of(math.MaxInt, math.MinInt), of(math.MinInt, math.MaxInt),
	}
	for _, end := range []int{most + 1, -most - 1, 1 << 32, -1 << 32, 1 << 62, math.MaxInt, math.MinInt, math.MinInt + 1} {
		l = append(l, of(end, end), of(min(0, end), max(0, end)), of(max(0, end), min(0, end)), of(-most, end), of(end, most))
	}
	return l
}

// faces are planes, balls of either sign and other conics, with terms and without, and stops, numbers that are not right among them.
func faces() []api.Surf {
	ats := []api.Iv{whole(0), whole(10), whole(-3), of(655300, 655400), wholes(-1, 2), none}
	opens := []api.Iv{whole(64), whole(9), of(5*one, 30*one), whole(16000), point(17*one - 1), none, whole(0), of(3, 2)}
	ratios := []api.Iv{into, out, whole(1), point(half), whole(2), of(43000, 44000), of(60000, 70000), none, whole(-1)}
	terms := []api.Iv{whole(0), whole(200), whole(-5000), of(-77, 78), none}
	var l []api.Surf
	for n, curve := range []api.Iv{whole(0), point(quarter), point(-quarter), of(1310, 1311), of(-7000, -6500), of(-900, 900), none} {
		for m, conic := range []api.Iv{whole(1), whole(0), point(-3 * one), point(half), of(one-3, one+3), of(5, 4)} {
			for k := range 12 {
				s := api.Surf{Stop: k%4 == 3, Bent: k%4 == 2, Curve: curve, Conic: conic, At: ats[(n+m+k)%6], Open2: opens[(n*3+m+k)%8], Ratio: ratios[(n+m*2+k)%9], A4: terms[(n+m+k*2)%5], A6: terms[(n*3+m+k)%5]}
				l = append(l, s)
			}
		}
	}
	return l
}

// rays are narrow and wide, along the axis and aslant, numbers that are not right among them.
func rays() []api.Ray {
	ways := []api.V{axis, aslant, steps(10000, -3000, 64697), box(of(-5, 5), of(-9, 4), of(65530, 65536)), box(point(30000), of(-20000, -19900), of(54660, 54680)), at(0, 0, -1), at(3, -2, 4), at(1, 0, 0), box(none, whole(0), whole(1)), box(whole(0), whole(0), point(most+1)), box(of(-900, 900), of(-900, 900), of(65000, one))}
	var l []api.Ray
	for _, o := range []api.V{at(0, 0, 0), at(1, -2, 0), at(3, 0, 9), at(0, 5, 0), at(-3, 3, 10), box(of(one, one+100), of(-2*one, -2*one+50), of(0, 33)), box(wholes(3, 5), whole(0), whole(0)), box(of(-300, 200), of(-10, 500), of(655000, 655010)), at(30, -20, -40), box(whole(0), none, whole(0))} {
		for _, d := range ways {
			l = append(l, from(o, d))
		}
	}
	return l
}

// sort is 0 of a face without terms, 1 of one with them, 2 of a stop.
func sort(s api.Surf) int {
	switch {
	case s.Stop:
		return 2
	case s.Bent:
		return 1
	}
	return 0
}

// TestWords: of all that can be handed in, right or not, the answer is by the words, and each time the same (R1, R4).
func TestWords(t *testing.T) {
	w := written()
	var count [3][4]int
	for _, s := range faces() {
		for _, r := range rays() {
			want := w.said(s, r)
			for range 2 {
				check(t, row{"by the words", s, r, want})
			}
			count[sort(s)][want.kind]++
		}
	}
	for k, l := range count {
		if min(l[api.Through], l[api.Blocked], l[api.Unknown]) < 500 {
			t.Errorf("18.1: only %d answers of sort %d", l, k)
		}
	}
}

// lasting are rows of all sorts, each of another end.
func lasting() []row {
	return []row{
		{"a plane", plane, beside(3, -2), through(at(3, -2, 10), axis)}, {"a ball", ball, beside(0, 0), through(at(0, 0, 10), axis)}, {"a parabola", curved(parabola), beside(4, 0), through(at(4, 0, 12), axis)}, {"a plane with terms", bentPlane, beside(0, 0), through(at(0, 0, 10), axis)}, {"a stop", stop(), from(at(1, 0, 0), at(1, 0, 10)), through(at(2, 0, 10), at(1, 0, 10))},
		{"past a ball's side", ball, beside(5, 0), blocked}, {"past the side of a dish", dish, from(at(0, 0, 8), at(4, 0, 1)), blocked}, {"beyond a plane's opening", plane, beside(8, 1), blocked}, {"beyond a stop's opening", stop(), beside(8, 1), blocked}, {"beyond that of a plane with terms", bentPlane, beside(8, 1), blocked}, {"thrown back", by(plane, whole(2)), from(at(-7, 0, 0), aslant), blocked}, {"thrown back by a dish", by(dish, out), beside(5, 0), blocked},
		{"along a plane", plane, from(at(0, 0, 0), at(1, 0, 0)), unknown}, {"perhaps beyond the opening", plane, from(box(wholes(7, 9), whole(0), whole(0)), axis), unknown}, {"perhaps thrown back", by(plane, wholes(1, 2)), from(at(-7, 0, 0), aslant), unknown},
	}
}

// asked tells whether a number of the face or of the ray, by its place in numbersOf, has a part in what is told of r.
func asked(r row, number int) bool {
	_, p, is := hit.Of(r.s, r.r)
	within := tri.NotAbove(iv.Add(iv.Sqr(p.X), iv.Sqr(p.Y)), r.s.Open2)
	switch number {
	case 3:
		return is == api.Yes
	case 10:
		return is == api.Yes && within == api.Yes && !r.s.Stop
	case 11, 12:
		return r.s.Bent && is != api.No
	}
	return true
}

// TestNotRight: with a number that is not right, each in its turn, nothing is said; of those that are not asked it is as it was.
func TestNotRight(t *testing.T) {
	rows := lasting()
	checkRows(t, rows)
	for _, bad := range wrong() {
		for _, r := range rows {
			for k := range 13 {
				other := row{"a number that is not right", r.s, r.r, unknown}
				*numbersOf(&other.s, &other.r)[k] = bad
				if !asked(r, k) {
					other.want = r.want
				}
				check(t, other)
			}
		}
		all := box(bad, bad, bad)
		for _, s := range []api.Surf{plane, stop(), dish, {Curve: bad, Conic: bad, A4: bad, A6: bad, At: bad, Open2: bad, Ratio: bad}, {Stop: true, Bent: true, Curve: bad, Conic: bad, A4: bad, A6: bad, At: bad, Open2: bad, Ratio: bad}} {
			checkTurned(t, []row{{"no ray that is right", s, from(all, all), unknown}, {"no way that is right", s, from(at(0, 0, 0), all), unknown}, {"no place that is right", s, from(all, axis), unknown}})
		}
	}
}

// TestNotAsked: what has no part in the answer changes nothing, whatever it is.
func TestNotAsked(t *testing.T) {
	for n, r := range lasting() {
		for m, a := range append(wrong(), whole(0), whole(5), whole(-5000), of(-one, one), of(-most, most)) {
			all := r
			for k := range 13 {
				if asked(r, k) {
					continue
				}
				other := r
				*numbersOf(&other.s, &other.r)[k] = a
				if (n+m+k)%3 > 0 {
					*numbersOf(&all.s, &all.r)[k] = a
				}
				check(t, other)
			}
			check(t, all)
		}
	}
}

// lesser are some intervals that lie in a.
func lesser(a api.Iv) [7]api.Iv {
	n := within(a)
	return [7]api.Iv{a, point(n[0]), point(n[1]), point(n[3]), of(n[0], n[2]), of(n[1], n[3]), of(n[1], n[2])}
}

// lie are rows whose numbers lie in those of s and r: some in one number of the ray alone, some in all of it, some in all of both.
func lie(s api.Surf, r api.Ray) (l []row) {
	for k := range 7 {
		for n := 4; n < 10; n++ {
			inner, narrow := s, r
			*numbersOf(&inner, &narrow)[n] = lesser(*numbersOf(&s, &r)[n])[k]
			l = append(l, row{s: inner, r: narrow})
		}
		inner, narrow := s, r
		for n := 4; n < 10; n++ {
			*numbersOf(&inner, &narrow)[n] = lesser(*numbersOf(&s, &r)[n])[(k*n+1)%7]
		}
		l = append(l, row{s: inner, r: narrow})
		for n := range 13 {
			*numbersOf(&inner, &narrow)[n] = lesser(*numbersOf(&s, &r)[n])[(k+n*2+1)%7]
		}
		l = append(l, row{s: inner, r: narrow})
	}
	return l
}

// boxes are faces and rays that are right, and wide in their numbers: places of some hundreds.
func boxes() (l []row) {
	ats := []api.Iv{whole(10), of(655300, 655400), of(9*one, 9*one+3000), whole(0), whole(-300)}
	opens := []api.Iv{whole(64), whole(9), of(4*one, 9*one), whole(900), of(20*one, 21*one), whole(1)}
	ratios := []api.Iv{into, out, whole(1), point(half), whole(2), of(43000, 44000), of(98000, 98500), of(60000, 70000)}
	terms := []api.Iv{of(-77, 78), wholes(-1, 2), whole(200), wholes(300, 301), wholes(-90, -80), whole(0), wholes(-5000, -4990)}
	ways := []api.V{axis, box(point(10000), of(-3000, -2990), of(64690, 64700)), box(of(-500, 500), of(-900, 400), of(65000, 65536)), box(of(20000, 21000), of(-20000, -19000), of(58000, 59000)), box(of(52000, 52900), of(-90, 80), of(39000, 39900))}
	starts := []api.V{at(0, 0, 0), box(of(one, one+100), of(-2*one, -2*one+50), of(0, 33)), box(wholes(3, 5), of(-one, 2*one), wholes(0, 1)), box(of(-30000, 20000), of(-10, 50000), of(5000, 7000)), box(wholes(5, 6), wholes(-1, 1), of(one, one+900)), box(of(-3*one, -3*one+40), of(2*one, 2*one+900), of(0, 9)), box(of(2*one, 2*one+5000), of(-300, 400), of(0, 80))}
	for n, curve := range []api.Iv{whole(0), of(1310, 1311), of(-7000, -6500), of(0, 900), point(-quarter), point(quarter), of(15000, 16000)} {
		for m, conic := range []api.Iv{whole(1), of(-one, 0), wholes(-3, -2), of(0, half), of(one-3, one+300)} {
			for i, o := range starts {
				for j, d := range ways {
					k := n + m + i + j
					place := ats[k%5]
					s := api.Surf{Stop: (k+n+i)%5 == 0, Bent: (k+i)%2 == 0, Curve: curve, Conic: conic, At: place, Open2: opens[(n+i*2+j)%6], Ratio: ratios[(n+m*3+j)%8], A4: terms[(m+i+j)%7], A6: terms[(n+m*3+j*2)%7]}
					// Up to the face it is 10, or less.
					o.Z = iv.Add(starts[i].Z, point(place.Lo-(10-k%10)*one))
					l = append(l, row{s: s, r: from(o, d)})
				}
			}
		}
	}
	return l
}

// held counts answers by sort and kind.
type held [3][4]int

// enough tells whether of each sort and of each kind but Unknown there are so many.
func (h held) enough(n int) bool {
	for _, l := range h {
		if min(l[api.Through], l[api.Blocked]) < n {
			return false
		}
	}
	return true
}

// TestLess: of a smaller ray through a face that is not Bent what goes through lies in the larger one's, and what is sure is sure; of all faces what is Through is not Blocked of less, nor what is Blocked Through (W1, W2).
func TestLess(t *testing.T) {
	var count held
	surer := 0
	for _, more := range boxes() {
		got := tell(more.s, more.r)
		for _, less := range lie(more.s, more.r) {
			inner := tell(less.s, less.r)
			if got.kind == api.Unknown {
				if inner.kind != api.Unknown {
					surer++
				}
				continue
			}
			count[sort(more.s)][inner.kind]++
			if inner.kind == api.Through+api.Blocked-got.kind {
				t.Errorf("W2: Go(%+v, %+v) is %d, and %d of less, %+v, %+v", more.s, more.r, got.kind, inner.kind, less.s, less.r)
			}
			if !more.s.Bent && inner.kind != got.kind {
				t.Errorf("W1: Go(%+v, %+v) is %d, but %d of less, %+v, %+v", more.s, more.r, got.kind, inner.kind, less.s, less.r)
			}
			if inner.kind != api.Through || got.kind != api.Through {
				continue
			}
			if !more.s.Bent && !(vec.Inside(inner.r.O, got.r.O) && vec.Inside(inner.r.D, got.r.D)) {
				t.Errorf("W1: Go(%+v, %+v) = %+v, not in that of more, %+v, %+v: %+v", less.s, less.r, inner, more.s, more.r, got)
			}
			// What is exact lies in both.
			if !meet(inner.r.O, got.r.O) || !meet(inner.r.D, got.r.D) {
				t.Errorf("W1: Go(%+v, %+v) = %+v, nowhere near that of more, %+v, %+v: %+v", less.s, less.r, inner, more.s, more.r, got)
			}
		}
	}
	// What is Unknown holds anything: the test is one only while much is said.
	if !count.enough(2000) || surer < 2000 {
		t.Errorf("W1: only %d answers, and %d of less of what is Unknown", count, surer)
	}
}

// meet tells whether something lies in both.
func meet(a, b api.V) bool {
	return iv.Right(iv.Meet(a.X, b.X)) && iv.Right(iv.Meet(a.Y, b.Y)) && iv.Right(iv.Meet(a.Z, b.Z))
}

// TestNeverBoth: where of less some goes on and some is Blocked, all of it is Unknown (W2).
func TestNeverBoth(t *testing.T) {
	both := 0
	for _, more := range boxes() {
		var seen [4]bool
		for _, less := range lie(more.s, more.r) {
			seen[tell(less.s, less.r).kind] = true
		}
		if !seen[api.Through] || !seen[api.Blocked] {
			continue
		}
		both++
		check(t, row{"some of it through, some blocked", more.s, more.r, unknown})
	}
	if both < 50 {
		t.Errorf("W2: only %d are through in part, and blocked in part", both)
	}
}

// TestHeld: of exact faces and rays in a box what goes through lies in its answer, and what is Blocked does not go on (W1).
func TestHeld(t *testing.T) {
	var count held
	for _, r := range boxes() {
		got := tell(r.s, r.r)
		for _, n := range members(r.s, r.r) {
			if checkHeld(t, got, n) {
				count[sort(r.s)][got.kind]++
			}
		}
	}
	if !count.enough(100) {
		t.Errorf("W1: only %d rays were held", count)
	}
}

// TestTurned: rays that are turned by quarters, and mirrored, go on turned, and mirrored (W3).
func TestTurned(t *testing.T) {
	for _, r := range boxes() {
		r.what, r.want = "turned", tell(r.s, r.r)
		checkTurned(t, []row{r})
	}
}

// TestWider: of a wider opening what is Through stays so, the same; and what an opening of all numbers tells is told, but for what the narrower one cuts.
func TestWider(t *testing.T) {
	var count held
	for n, r := range boxes() {
		got, all := tell(r.s, r.r), tell(open(r.s, point(most)), r.r)
		count[sort(r.s)][got.kind]++
		if got != all && isWithin(r) == api.Yes {
			t.Errorf("18.1: Go(%+v, %+v) = %+v, but %+v all open", r.s, r.r, got, all)
		}
		for k, more := range []int{0, 1, 77, one, 30 * one, 4000 * one} {
			wider := of(r.s.Open2.Lo+more, r.s.Open2.Hi+more+(n+k)%3*one)
			other := tell(open(r.s, wider), r.r)
			if got.kind == api.Through && other != got {
				t.Errorf("18.1: Go(%+v, %+v) = %+v, but by a wider opening, %+v, %+v", r.s, r.r, got, wider, other)
			}
			if other.kind == api.Through && other != all {
				t.Errorf("18.1: Go(%+v, %+v) by %+v is %+v, but %+v all open", r.s, r.r, wider, other, all)
			}
		}
	}
	if !count.enough(50) {
		t.Errorf("18.1: only %d were held", count)
	}
}

// isWithin tells whether r is met within its opening.
func isWithin(r row) api.Tri {
	_, p, is := hit.Of(r.s, r.r)
	return tri.And(is, tri.NotAbove(iv.Add(iv.Sqr(p.X), iv.Sqr(p.Y)), r.s.Open2))
}

// TestMoved: a face and a ray that are moved along the axis, by whole steps, go on the same, moved.
func TestMoved(t *testing.T) {
	var count held
	for n, r := range boxes() {
		want := tell(r.s, r.r)
		count[sort(r.s)][want.kind]++
		for _, far := range []int{1, -1, 77 - n, 300 * one, -500*one + n, 12345678, -8000 * one} {
			other := row{"moved along the axis", moved(r.s, iv.Add(r.s.At, point(far))), r.r, want}
			other.r.O.Z = iv.Add(r.r.O.Z, point(far))
			if want.kind == api.Through {
				other.want.r.O.Z = iv.Add(want.r.O.Z, point(far))
			}
			check(t, other)
		}
	}
	if !count.enough(50) {
		t.Errorf("18.1: only %d were held", count)
	}
}

// TestOnFace: what goes through is on the face then, and not surely beyond its opening; from there it meets the face again where it is.
func TestOnFace(t *testing.T) {
	deep, again := 0, 0
	for _, r := range boxes() {
		got := tell(r.s, r.r)
		if got.kind != api.Through {
			continue
		}
		o := got.r.O
		r2 := iv.Add(iv.Sqr(o.X), iv.Sqr(o.Y))
		if tri.NotAbove(r2, r.s.Open2) != api.Yes {
			t.Errorf("18.1: Go(%+v, %+v) = %+v, beyond the opening", r.s, r.r, got)
		}
		if z, _ := sag.Of(r.s, r2); iv.Right(z) {
			deep++
			if !iv.Right(iv.Meet(iv.Add(z, r.s.At), o.Z)) {
				t.Errorf("18.1: Go(%+v, %+v) = %+v, where the face is at %+v", r.s, r.r, got, iv.Add(z, r.s.At))
			}
		}
		if at := tell(curved(open(r.s, point(most))), from(o, r.r.D)); at.kind == api.Through {
			again++
			if at.r.D != r.r.D || !meet(at.r.O, o) {
				t.Errorf("18.1: Go(%+v, %+v) = %+v, and from there %+v", r.s, r.r, got, at)
			}
		} else if at.kind == api.Blocked {
			t.Errorf("18.1: Go(%+v, %+v) = %+v, from where it is Blocked", r.s, r.r, got)
		}
	}
	if min(deep, again) < 200 {
		t.Errorf("18.1: only %d were held, and %d again", deep, again)
	}
}

// TestFocus: what goes along the axis a face of the right Conic brings to one point, by a half an ellipsoid, by 2 a hyperboloid, or it goes as if it came from one; and back along the axis, by the other ratio.
func TestFocus(t *testing.T) {
	for _, c := range []struct {
		s    api.Surf
		deep int // how far behind its vertex the point is
	}{
		{face(quarter, 3*quarter, point(half)), 8}, {face(-quarter, 3*quarter, point(half)), -8}, {face(-quarter, -3*one, whole(2)), 4}, {face(quarter, -3*one, whole(2)), -4},
	} {
		focus := at(0, 0, 10+c.deep)
		for k := range 30 {
			x, y := 9000*(k%6)+777, 8000*(k/6)-15000
			got := tell(c.s, from(steps(x, y, 0), axis))
			there := vec.Along(got.r, iv.Div(iv.Sub(focus.Z, got.r.O.Z), got.r.D.Z))
			if got.kind != api.Through || !vec.Inside(focus, there) || there.X.Hi-there.X.Lo > one/64 {
				t.Errorf("18.1: Go(%+v, %d, %d) = %+v, to %+v", c.s, x, y, got, there)
			}
			s, r := reversed(c.s, got.r)
			if back := tell(s, r); back.kind != api.Through || !vec.Inside(axis, back.r.D) || !iv.Has(back.r.O.X, x) || !iv.Has(back.r.O.Y, y) {
				t.Errorf("18.1: back: Go(%+v, %+v) = %+v", s, r, back)
			}
		}
	}
}

// reversed is the face s, at 10, and the ray that comes back to it as r left it, mirrored in the plane of its vertex, so that light goes to higher z again.
func reversed(s api.Surf, r api.Ray) (api.Surf, api.Ray) {
	o := vec.Along(r, whole(1))
	s.Curve, s.Ratio = iv.Neg(s.Curve), iv.Div(whole(1), s.Ratio)
	return s, from(box(o.X, o.Y, iv.Sub(whole(20), o.Z)), box(iv.Neg(r.D.X), iv.Neg(r.D.Y), r.D.Z))
}

// TestOfLens: rays through a lens that was read, face by face: exact ones lie in the answers (W1), which are narrow.
func TestOfLens(t *testing.T) {
	g, _, e := glass.Read("glass crown 1.03961 0.006001 0.23179 0.020018 1.01047 103.56\nglass flint 1.34534 0.009977 0.20907 0.04705 0.93736 111.887\n")
	if e != api.OK {
		t.Fatalf("11.1: %d", e)
	}
	l, _, e := lens.Read("lens a 40\nface -50.3 10 2 crown\nface 17.1 7 2 flint conic -0.5\nface 0 7 2 air\nstop 4 1\nface 31.7 7 2 crown a4 0.7 a6 -1.9\nface -19.9 7 2 air conic 0.31\n", g)
	if e != api.OK {
		t.Fatalf("12.1: %d", e)
	}
	var ends [4]int
	for line := range 3 {
		s, e := system.Build(l, g, glass.Line(line))
		if e != api.OK {
			t.Fatalf("13.1: %d", e)
		}
		for n := range 60 {
			ray := from(steps(n*997-30000, 20000-n*31, 0), vec.Unit(box(point(n*437-9000), point(2500-n*93), whole(1))))
			ends[goes(t, s, ray)]++
		}
	}
	if min(ends[api.Through], ends[api.Blocked]) < 20 || ends[api.Unknown] > 9 {
		t.Errorf("18.1: only %d rays go through", ends)
	}
}

// goes is what becomes of a ray, face by face.
func goes(t *testing.T, s api.System, ray api.Ray) int {
	for _, surf := range s.Surfs {
		got := tell(surf, ray)
		for _, n := range members(surf, ray) {
			checkHeld(t, got, n)
		}
		if got.kind != api.Through {
			return got.kind
		}
		if surf.Stop && got.r.D != ray.D || !iv.Has(vec.Len2(got.r.D), one) || got.r.D.X.Hi-got.r.D.X.Lo > one/8 || got.r.O.Z.Hi-got.r.O.Z.Lo > one/8 {
			t.Errorf("18.1: Go(%+v, %+v) = %+v", surf, ray, got)
		}
		// From the middle on: what is wide from face to face would tell ever less.
		ray = from(middle(got.r.O), vec.Unit(middle(got.r.D)))
	}
	return api.Through
}

// middle is the middle of a.
func middle(a api.V) api.V {
	return steps(iv.Mid(a.X), iv.Mid(a.Y), iv.Mid(a.Z))
}

// TestNothingPanics: whatever is handed in; a ray that goes on is right, of others it is of Nones, which have Lo and Hi 0 (R1, R3).
func TestNothingPanics(t *testing.T) {
	ints := []int{math.MinInt, -1 << 32, -most - 1, -most, -1, 0, 1, 256, one, most, most + 1, 1 << 32, math.MaxInt}
	for n, a := range ints {
		for m, b := range ints {
			for k := range 96 {
				x, y := api.Iv{Lo: a, Hi: b, No: k%16 == 15}, of(ints[(n+k)%13], ints[(m+k*3)%13])
				l := [7]api.Iv{x, whole(1), whole(0), y, of(a, a), of(b, b), point(quarter)}
				s := api.Surf{Stop: k%5 == 0, Bent: k%4 < 2}
				var r api.Ray
				for i, number := range numbersOf(&s, &r) {
					*number = l[(k*(i+1)/3+i)%7]
				}
				got := tell(s, r)
				if got != blocked && got != unknown && (got.kind != api.Through || !vec.Right(got.r.O) || !vec.Right(got.r.D)) {
					t.Errorf("18.1: Go(%+v, %+v) = %+v", s, r, got)
				}
				if again := tell(s, r); again != got {
					t.Errorf("R4: Go(%+v, %+v) = %+v, then %+v", s, r, got, again)
				}
			}
		}
	}
	check(t, row{"of numbers that are 0", api.Surf{}, api.Ray{}, unknown})
}

// TestAsOften: the same is answered however often it is asked, whatever was asked between, and nothing that is handed in is changed (R2, R4).
func TestAsOften(t *testing.T) {
	rows := lasting()
	kept := append([]row(nil), rows...)
	for range 3 {
		for k := range rows {
			checkRows(t, rows[k:k+1])
			for _, r := range rows {
				step.Go(r.s, r.r)
				step.Go(open(r.s, none), from(nones, axis))
			}
			checkRows(t, rows[k:k+1])
		}
	}
	for k := range rows {
		if rows[k] != kept[k] {
			t.Errorf("R2: %+v was changed", kept[k])
		}
	}
}

// FuzzGo: nothing panics, and each answer is as the document says.
func FuzzGo(f *testing.F) {
	f.Add(quarter, one, 10*one, 64*one, one, -one, 0, 10000, -3000, 64697, half, 0, 0, 0, 0)
	f.Add(-1311, 0, 10*one, 64*one, 3*one, -one, 0, 39321, 0, 52428, 43690, 300*one, -7*one, 7, 2)
	f.Add(0, -one, most, most, one, math.MinInt, math.MaxInt, 0, most, 1, 0, 512, 9, 1, 1)
	f.Fuzz(func(t *testing.T, curve, conic, at, open2, x, y, z, u, v, w, ratio, a4, a6, wide, sort int) {
		s := api.Surf{Stop: sort&1 > 0, Bent: sort&2 > 0}
		var r api.Ray
		for k, number := range numbersOf(&s, &r) {
			lo := []int{curve, conic, at, open2, x, y, z, u, v, w, ratio, a4, a6}[k]
			*number = of(lo, lo+wide>>k)
		}
		got := tell(s, r)
		check(t, row{"by the words", s, r, written().said(s, r)})
		for _, n := range members(s, r) {
			checkHeld(t, got, n)
		}
	})
}

package snell_test

import (
	"math"
	"math/big"
	"testing"

	"meniscus/api"
	"meniscus/glass"
	"meniscus/hit"
	"meniscus/iv"
	"meniscus/lens"
	"meniscus/normal"
	"meniscus/snell"
	"meniscus/system"
	"meniscus/vec"
)

const (
	one  = api.One
	most = api.Most
	half = one / 2
)

var (
	none  = api.Iv{No: true}
	nones = api.V{X: none, Y: none, Z: none}
	up    = at(0, 0, 1)
)

func of(lo, hi int) api.Iv {
	return api.Iv{Lo: lo, Hi: hi}
}

func point(n int) api.Iv {
	return of(n, n)
}

// whole is a point of a whole number: One steps to each 1.
func whole(n int) api.Iv {
	return point(n * one)
}

// wholes is from one whole number to another.
func wholes(lo, hi int) api.Iv {
	return of(lo*one, hi*one)
}

func box(x, y, z api.Iv) api.V {
	return api.V{X: x, Y: y, Z: z}
}

// at is a way of whole numbers.
func at(x, y, z int) api.V {
	return box(whole(x), whole(y), whole(z))
}

// near is a way each part of which is a step wide, or 0.
func near(x, y, z int) api.V {
	part := func(n int) api.Iv {
		if n == 0 {
			return point(0)
		}
		return of(n, n+1)
	}
	return box(part(x), part(y), part(z))
}

// deep is one along the axis of so many steps.
func deep(lo, hi int) api.V {
	return box(whole(0), whole(0), of(lo, hi))
}

// aside is one across the axis too.
func aside(x, y, z int) api.V {
	return box(whole(x), whole(y), point(z))
}

// row of a table: what is asked, and what is to be answered.
type row struct {
	what  string
	d, n  api.V
	ratio api.Iv
	want  api.V
	is    api.Tri
}

// motion is one of the eight that bring a square upon itself: k quarters on, mirrored first from the fourth on.
func motion(a api.V, k int) api.V {
	if k > 3 {
		a = vec.Mirror(a)
	}
	return vec.Turn(a, k%4)
}

// check holds one answer.
func check(t *testing.T, r row) {
	t.Helper()
	if got, is := snell.Bend(r.d, r.n, r.ratio); got != r.want || is != r.is {
		t.Errorf("17.1: %s: Bend(%+v, %+v, %+v) = %+v, %d, not %+v, %d", r.what, r.d, r.n, r.ratio, got, is, r.want, r.is)
	}
}

// checkTurned holds the rows, turned by quarters and mirrored (W3).
func checkTurned(t *testing.T, rows []row) {
	t.Helper()
	for _, r := range rows {
		for k := range 8 {
			check(t, row{r.what, motion(r.d, k), motion(r.n, k), r.ratio, motion(r.want, k), r.is})
		}
	}
}

// checkRows holds the rows, turned and mirrored, and exact ways and ratios in them (W1).
func checkRows(t *testing.T, rows []row) {
	t.Helper()
	checkTurned(t, rows)
	for _, r := range rows {
		for _, n := range members(r) {
			checkHeld(t, r.want, r.is, n)
		}
	}
}

// same is rows that have one answer: of those ratios.
func same(what string, d, n, want api.V, is api.Tri, ratios ...api.Iv) (l []row) {
	for _, ratio := range ratios {
		l = append(l, row{what, d, n, ratio, want, is})
	}
	return l
}

// numbers are exact ways and an exact ratio.
type numbers struct {
	d, n  [3]*big.Rat
	ratio *big.Rat
}

// rat is n / by, exact.
func rat(n, by int) *big.Rat {
	return big.NewRat(int64(n), int64(by))
}

func product(l ...*big.Rat) *big.Rat {
	p := rat(1, 1)
	for _, a := range l {
		p.Mul(p, a)
	}
	return p
}

func total(l ...*big.Rat) *big.Rat {
	p := new(big.Rat)
	for _, a := range l {
		p.Add(p, a)
	}
	return p
}

func less(a *big.Rat) *big.Rat {
	return new(big.Rat).Neg(a)
}

// within are some whole numbers in a.
func within(a api.Iv) [4]int {
	return [4]int{a.Lo, a.Lo + (a.Hi-a.Lo)/3, a.Lo + (a.Hi-a.Lo)/2, a.Hi}
}

// numbersOf are d's, n's and ratio, one by one.
func numbersOf(r *row) [7]*api.Iv {
	return [7]*api.Iv{&r.d.X, &r.d.Y, &r.d.Z, &r.n.X, &r.n.Y, &r.n.Z, &r.ratio}
}

// members are some exact ways and ratios that lie in r's; none where a number is not right.
func members(r row) (l []numbers) {
	points := true
	for _, a := range numbersOf(&r) {
		if !iv.Right(*a) {
			return nil
		}
		points = points && a.Lo == a.Hi
	}
	for k := range 4 {
		if points && k > 0 {
			break
		}
		var picked [7]*big.Rat
		for n, a := range numbersOf(&r) {
			picked[n] = rat(within(*a)[(k*(2*n+1)+n)%4], one)
		}
		l = append(l, numbers{[3]*big.Rat(picked[:3]), [3]*big.Rat(picked[3:6]), picked[6]})
	}
	return l
}

// roots are the root of a, which is not below 0, from below and from above: the same, if it is exact, else very near to one another.
func roots(a *big.Rat) [2]*big.Rat {
	fine := new(big.Int).Lsh(big.NewInt(1), 200)
	square := new(big.Int).Mul(a.Num(), a.Denom())
	square.Mul(square, fine).Mul(square, fine)
	low := new(big.Int).Sqrt(square)
	high := new(big.Int).Set(low)
	if new(big.Int).Mul(low, low).Cmp(square) != 0 {
		high.Add(high, big.NewInt(1))
	}
	by := new(big.Int).Mul(a.Denom(), fine)
	return [2]*big.Rat{new(big.Rat).SetFrac(low, by), new(big.Rat).SetFrac(high, by)}
}

// along is what d has of n.
func (a numbers) along() *big.Rat {
	return total(product(a.d[0], a.n[0]), product(a.d[1], a.n[1]), product(a.d[2], a.n[2]))
}

// square is what the root is taken of: below 0 all is thrown back.
func (a numbers) square() *big.Rat {
	g := a.along()
	return total(rat(1, 1), less(product(a.ratio, a.ratio, total(rat(1, 1), less(product(g, g))))))
}

// bent is part k of the way behind the face, from below and from above.
func (a numbers) bent(k int) (l [2]*big.Rat) {
	for n, q := range roots(a.square()) {
		across := total(q, less(product(a.ratio, a.along())))
		l[n] = total(product(a.d[k], a.ratio), product(a.n[k], across))
	}
	if l[0].Cmp(l[1]) > 0 {
		l[0], l[1] = l[1], l[0]
	}
	return l
}

// checkHeld holds what was told of a box against exact ways and an exact ratio in it (W1).
func checkHeld(t *testing.T, got api.V, is api.Tri, a numbers) {
	t.Helper()
	if is == api.Unsure {
		return
	}
	if a.along().Sign() <= 0 || (is == api.Yes) != (a.square().Sign() >= 0) {
		t.Errorf("W1: %+v, %d, of %v, %v, %v", got, is, a.d, a.n, a.ratio)
		return
	}
	if is == api.No {
		return
	}
	for k, part := range [3]api.Iv{got.X, got.Y, got.Z} {
		exact := a.bent(k)
		if rat(part.Lo, one).Cmp(exact[1]) > 0 || exact[0].Cmp(rat(part.Hi, one)) > 0 {
			t.Errorf("W1: part %d of %+v is without that of %v, %v, %v", k, got, a.d, a.n, a.ratio)
		}
	}
}

// into is 1 / 1.5, from air into glass; out is 1.5, out of it.
var (
	into = of(43690, 43691)
	out  = point(3 * half)
)

// TestExample: the example of chapter 17.
func TestExample(t *testing.T) {
	checkRows(t, []row{{"head on, by 1.5", up, up, out, up, api.Yes}})
}

// TestHeadOn: what goes as the way across does goes on so, whatever the ratio.
func TestHeadOn(t *testing.T) {
	for _, a := range []api.V{up, at(0, 0, -1), at(1, 0, 0), at(0, -1, 0)} {
		checkRows(t, same("head on", a, a, a, api.Yes, whole(0), point(1), point(-1), point(43691), point(half), whole(1), point(one+1), out, whole(2), whole(127), whole(-1), point(-half), whole(-2)))
	}
	checkRows(t, []row{
		{"of a wide ratio", up, up, wholes(1, 2), box(whole(0), whole(0), wholes(0, 2)), api.Yes}, {"of one about 0", up, up, wholes(-1, 1), box(whole(0), whole(0), wholes(-1, 3)), api.Yes}, {"of one into glass", up, up, into, deep(one-1, one+1), api.Yes},
	})
}

// TestExact: by numbers whose roots are exact; d and n that are not 1 long too.
func TestExact(t *testing.T) {
	slant := at(2, -1, 2)
	rows := []row{
		{"g of 1", at(1, 0, 1), up, whole(2), at(2, 0, 1), api.Yes}, {"g of 1, by 0.5", at(1, -3, 1), up, point(half), box(point(half), point(-3*half), whole(1)), api.Yes}, {"g of 1, by 0", at(1, -3, 1), up, whole(0), up, api.Yes}, {"g of 1, by -2", at(1, -3, 1), up, whole(-2), at(-2, 6, 1), api.Yes},
		{"g of 0.5, by 1", aside(3, -5, half), up, whole(1), aside(3, -5, half), api.Yes}, {"g of 0.5, by -1", aside(3, -5, half), up, whole(-1), aside(-3, 5, half), api.Yes}, {"g of 0.5, by 0", aside(3, -5, half), up, whole(0), up, api.Yes}, {"g of 0.5, by 2", aside(3, -5, half), up, whole(2), nones, api.No},
		{"g of 1.25, by 2.5", aside(4, -8, 5*half/2), up, point(5 * half), aside(10, -20, 17*half/4), api.Yes}, {"g of 1.25, by -2.5", aside(4, -8, 5*half/2), up, point(-5 * half), aside(-10, 20, 17*half/4), api.Yes}, {"g of 1.25, by 1", aside(4, -8, 5*half/2), up, whole(1), aside(4, -8, 5*half/2), api.Yes},
		{"g of 1.25, aslant, by 2.5", aside(1, 1, half), box(point(half), point(half), point(half)), point(5 * half), aside(2, 2, 3*half/2), api.Yes},
		{"n 2 long", aside(3, 1, half), at(0, 0, 2), point(half), box(out, point(half), point(5*half/2)), api.Yes}, {"n 2 long, by 2", aside(3, 1, half), at(0, 0, 2), whole(2), at(6, 2, -1), api.Yes},
		{"n 3 long, by 3", at(1, 1, 0), slant, whole(3), at(-1, 5, -4), api.Yes}, {"n 3 long, by 1", at(1, 1, 0), slant, whole(1), at(1, 1, 0), api.Yes}, {"n 3 long, by 0", at(1, 1, 0), slant, whole(0), slant, api.Yes}, {"n 3 long, by -1", at(1, 1, 0), slant, whole(-1), at(3, -3, 4), api.Yes}, {"n 3 long, by 0.5", at(1, 1, 0), slant, point(half), box(out, whole(0), whole(1)), api.Yes},
	}
	checkRows(t, rows)
}

// TestAslant: ways 1 long, at ratios below, at and above 1, at 0 and below it.
func TestAslant(t *testing.T) {
	a, b, c := near(39321, 0, 52428), near(21845, 43690, 43690), near(18724, -28087, 56173)
	n, e := near(-43691, -21846, 43690), near(29127, 29127, 50972)
	checkRows(t, []row{
		{"into glass, by 3, 4, 5", a, up, into, box(of(26213, 26215), whole(0), of(60062, 60068)), api.Yes}, {"into glass, by 1, 2, 2", b, up, into, box(of(14563, 14565), of(29126, 29128), of(56869, 56876)), api.Yes}, {"into glass, by 2, 3, 6", c, up, into, box(of(12482, 12484), of(-18725, -18723), of(61548, 61554)), api.Yes},
		{"into glass, the face aslant", c, n, into, box(of(-8227, -8217), of(-29080, -29073), of(58149, 58159)), api.Yes}, {"into glass, both aslant", e, b, into, box(of(26880, 26887), of(34344, 34354), of(48907, 48918)), api.Yes},
		{"out of glass, by 3, 4, 5", a, up, out, box(of(58981, 58983), whole(0), of(28558, 28571)), api.Yes}, {"out of glass, by 1, 2, 2", b, up, out, nones, api.No}, {"out of glass, by 2, 3, 6", c, up, out, box(of(28086, 28088), of(-42131, -42129), of(41600, 41612)), api.Yes},
		{"out of glass, the face aslant", c, n, out, nones, api.No}, {"out of glass, both aslant", e, b, out, box(of(32109, 32122), of(20529, 20552), of(53297, 53320)), api.Yes},
		{"by 1, by 3, 4, 5", a, up, whole(1), box(of(39321, 39322), whole(0), of(52426, 52431)), api.Yes}, {"by 1, the face aslant", c, n, whole(1), box(of(18719, 18730), of(-28090, -28083), of(56168, 56179)), api.Yes}, {"by 1, both aslant", e, b, whole(1), box(of(29124, 29131), of(29121, 29134), of(50966, 50979)), api.Yes},
		{"by 0.5, by 3, 4, 5", a, up, point(half), box(of(19660, 19661), whole(0), of(62515, 62519)), api.Yes}, {"by 0.5, the face aslant", c, n, point(half), box(of(-18728, -18721), of(-28090, -28085), of(56170, 56177)), api.Yes}, {"by 0.5, both aslant", e, b, point(half), box(of(25689, 25694), of(36815, 36823), of(47738, 47746)), api.Yes},
		{"by 1.1, by 1, 2, 2", b, up, of(72089, 72090), box(of(24029, 24031), of(48058, 48061), of(37515, 37526)), api.Yes}, {"by 1.1, the face aslant", c, n, of(72089, 72090), box(of(30501, 30522), of(-25944, -25932), of(51865, 51887)), api.Yes}, {"by 1.1, both aslant", e, b, of(72089, 72090), box(of(29757, 29768), of(27476, 27494), of(51505, 51524)), api.Yes},
		{"by 0, by 2, 3, 6", c, up, whole(0), up, api.Yes}, {"by 0, the face aslant", c, n, whole(0), n, api.Yes}, {"by 0, both aslant", e, b, whole(0), b, api.Yes},
		{"by -0.5, by 1, 2, 2", b, up, point(-half), box(of(-10923, -10922), of(-21846, -21845), of(60813, 60816)), api.Yes}, {"by -0.5, the face aslant", c, n, point(-half), box(of(-60339, -60331), of(-11446, -11440), of(22882, 22890)), api.Yes},
		{"by -1, the face aslant", c, n, whole(-1), box(of(-64501, -64489), of(5197, 5205), of(-10409, -10397)), api.Yes}, {"by -1, both aslant", e, b, whole(-1), box(of(12941, 12950), of(55010, 55024), of(33165, 33179)), api.Yes},
		{"by -1.5, by 2, 3, 6", c, up, point(-3 * half), box(of(-28088, -28086), of(42129, 42131), of(41600, 41612)), api.Yes}, {"by -1.5, by 1, 2, 2", b, up, point(-3 * half), nones, api.No}, {"by -1.5, both aslant", e, b, point(-3 * half), box(of(7835, 7850), of(59362, 59387), of(26594, 26619)), api.Yes},
	})
}

// TestAhead: Unsure, if g may be 0 or below it, by a step even; whatever k is.
func TestAhead(t *testing.T) {
	by := at(1, -1, 0)
	for _, ratio := range []api.Iv{point(half), point(-half)} {
		checkRows(t, []row{
			{"along", at(3, -5, 0), up, ratio, nones, api.Unsure}, {"a step behind", deep(-1, -1), up, ratio, nones, api.Unsure}, {"a step behind, aside", aside(3, -5, -1), up, ratio, nones, api.Unsure}, {"from behind", at(0, 0, -1), up, ratio, nones, api.Unsure}, {"n from behind", up, at(0, 0, -1), ratio, nones, api.Unsure},
			{"perhaps along", deep(0, one), up, ratio, nones, api.Unsure}, {"perhaps behind", deep(-1, one), up, ratio, nones, api.Unsure}, {"along, or behind", deep(-one, 0), up, ratio, nones, api.Unsure}, {"n perhaps along", up, deep(0, one), ratio, nones, api.Unsure}, {"n perhaps behind", up, deep(-1, one), ratio, nones, api.Unsure},
			{"by two parts, along", at(1, 1, 7), by, ratio, nones, api.Unsure}, {"by two parts, a step behind", box(point(one-1), whole(1), whole(7)), by, ratio, nones, api.Unsure}, {"by rounding perhaps along", deep(256, 256), deep(255, 255), ratio, nones, api.Unsure},
			{"no way at all", at(0, 0, 0), up, ratio, nones, api.Unsure}, {"nothing across", up, at(0, 0, 0), ratio, nones, api.Unsure}, {"neither", at(0, 0, 0), at(0, 0, 0), ratio, nones, api.Unsure},
		})
	}
	checkRows(t, []row{
		{"a step ahead", deep(1, 1), up, point(half), deep(56754, 56758), api.Yes}, {"a step ahead, aside", aside(3, -5, 1), up, point(half), box(out, point(-5*half), of(56754, 56758)), api.Yes}, {"from a step ahead on", deep(1, one), up, point(half), deep(23987, 98304), api.Yes}, {"n from a step ahead on", up, deep(1, one), point(half), deep(32768, 98304), api.Yes},
		{"by two parts, a step ahead", box(point(one+1), whole(1), whole(7)), by, point(half), box(of(89522, 89526), of(-23989, -23986), point(7*half)), api.Yes}, {"by rounding a step ahead", deep(256, 256), deep(256, 256), point(half), deep(349, 350), api.Yes},
	})
	for _, ratio := range []api.Iv{whole(2), whole(-2)} {
		checkRows(t, []row{
			{"along, with k below 0", at(5, 0, 0), up, ratio, nones, api.Unsure}, {"behind, with k below 0", deep(-half, -half), up, ratio, nones, api.Unsure}, {"perhaps along, with k below 0", deep(0, half), up, ratio, nones, api.Unsure}, {"ahead, with k below 0", deep(1, half), up, ratio, nones, api.No},
		})
	}
}

// TestAheadNone: Unsure, if g is None: by a product or by a sum; that of x and y is taken first.
func TestAheadNone(t *testing.T) {
	checkRows(t, []row{
		{"x and y past the bounds", at(16384, 1, -16384), at(1, 1, 1), whole(0), nones, api.Unsure}, {"x and y within them", at(16383, 1, -16383), at(1, 1, 1), whole(0), at(1, 1, 1), api.Yes},
		{"x past the bounds", at(16384, 0, 1), box(point(one+1), whole(0), whole(1)), whole(0), nones, api.Unsure}, {"z past the bounds", at(1, 0, 16384), box(whole(1), whole(0), point(-one-1)), whole(0), nones, api.Unsure},
		{"the sum past the bounds", box(whole(0), whole(16384), point(1)), at(0, 1, 1), whole(0), nones, api.Unsure}, {"within them", at(0, 16384, -16383), at(0, 1, 1), whole(0), at(0, 1, 1), api.Yes}, {"the sum below the bounds", box(whole(0), whole(-16384), point(-1)), at(0, 1, 1), whole(0), nones, api.Unsure},
	})
}

// TestThrown: No, if k.Hi is below 0; Unsure, if k.Lo is and k.Hi is not; Yes from k.Lo of 0 on.
func TestThrown(t *testing.T) {
	d := deep(64768, 64768)
	for _, r := range []struct {
		lo, hi int // the ratio
		k      api.Iv
		want   api.V
		is     api.Tri
	}{
		{429335, 429335, of(1, 2), deep(255, 364), api.Yes}, {429336, 429336, of(0, 1), deep(-1, 257), api.Yes}, {429339, 429339, of(0, 1), deep(-1, 257), api.Yes}, {429340, 429340, of(-1, 0), nones, api.Unsure}, {429342, 429342, of(-1, 0), nones, api.Unsure}, {429343, 429343, of(-2, -1), nones, api.No},
		{429335, 429339, of(0, 2), deep(-5, 368), api.Yes}, {429335, 429340, of(-1, 2), nones, api.Unsure}, {429336, 429340, of(-1, 1), nones, api.Unsure}, {429336, 429343, of(-2, 1), nones, api.Unsure}, {429340, 429346, of(-3, 0), nones, api.Unsure}, {429342, 429346, of(-3, 0), nones, api.Unsure}, {429343, 429346, of(-3, -1), nones, api.No},
		{-429339, 429339, of(0, one), deep(-848616, 914152), api.Yes}, {-429339, 429340, of(-1, one), nones, api.Unsure}, {-429343, 429339, of(-2, one), nones, api.Unsure},
	} {
		ratio := of(r.lo, r.hi)
		if k := written().k(d, up, ratio, vec.Dot(d, up)); k != r.k {
			t.Errorf("17.1: k of %+v is %+v, not %+v", ratio, k, r.k)
		}
		checkRows(t, []row{{"by the ratio", d, up, ratio, r.want, r.is}, {"by the ratio below 0", d, up, iv.Neg(ratio), r.want, r.is}})
	}
	low := deep(12288, 12288)
	checkRows(t, []row{
		{"by g", deep(64766, 64767), up, point(429340), nones, api.No}, {"by g, wide", deep(64760, 64767), up, point(429340), nones, api.No}, {"by g, perhaps", deep(64767, 64780), up, point(429340), nones, api.Unsure}, {"by g, not", deep(64769, 64770), up, point(429340), deep(1652, 3365), api.Yes},
		{"k of 1 to 3", low, up, point(66718), deep(255, 445), api.Yes}, {"k of -1 to 1", low, up, point(66719), nones, api.Unsure}, {"k of -2 to -1", low, up, point(66720), nones, api.No},
	})
}

// TestBounds: g and ratios at the bounds of what has a square, k at its own, and past them: Unsure.
func TestBounds(t *testing.T) {
	const end = 128 * one
	checkRows(t, []row{
		{"the ratio at the bounds", up, up, point(end), up, api.Yes}, {"the ratio a step past them", up, up, point(end + 1), nones, api.Unsure}, {"the ratio at the lower bounds", up, up, point(-end), up, api.Yes}, {"the ratio a step below them", up, up, point(-end - 1), nones, api.Unsure},
		{"all ratios", up, up, of(-end, end), box(whole(0), whole(0), wholes(-255, 257)), api.Yes}, {"and a step more", up, up, of(-end-1, end), nones, api.Unsure}, {"and a step more, above", up, up, of(-end, end+1), nones, api.Unsure}, {"much more", up, up, of(-most, most), nones, api.Unsure},
		{"g at the bounds", at(0, 0, 128), up, whole(1), at(0, 0, 128), api.Yes}, {"g a step past them", deep(end+1, end+1), up, whole(1), nones, api.Unsure}, {"g a step past them, by a ratio of 0", deep(end+1, end+1), up, whole(0), nones, api.Unsure}, {"g at the bounds, by 0", at(0, 0, 128), up, whole(0), up, api.Yes}, {"g far past them", at(0, 0, 16384), up, whole(1), nones, api.Unsure},
		{"k past the bounds", at(0, 0, 128), up, point(one + 1), nones, api.Unsure}, {"k past them, by a ratio below 0", at(0, 0, 128), up, point(-one - 1), nones, api.Unsure}, {"k near the lower bounds", deep(256, 256), up, point(end), nones, api.No}, {"k nearer", deep(1, 1), up, point(end), nones, api.No},
	})
}

// TestNonePart: Unsure, if a part of the sum is None: each in its turn, by d, by n and by both.
func TestNonePart(t *testing.T) {
	const eighth = 8192 * one
	flat := at(1, 0, 0)
	far := func(x, y int) api.V { return box(point(x), point(y), whole(3)) }
	checkRows(t, []row{
		{"d's X at the bounds", at(8192, 0, 1), up, whole(2), at(16384, 0, 1), api.Yes}, {"d's X past them", box(point(eighth+1), whole(0), whole(1)), up, whole(2), nones, api.Unsure}, {"d's Y at the lower bounds", at(0, -8192, 1), up, whole(2), at(0, -16384, 1), api.Yes}, {"d's Y below them", box(whole(0), point(-eighth-1), whole(1)), up, whole(2), nones, api.Unsure},
		{"d's Z at the bounds", at(1, 0, 8192), flat, whole(2), at(1, 0, 16384), api.Yes}, {"d's Z past them", aside(1, 0, eighth+1), flat, whole(2), nones, api.Unsure}, {"d's Z below them", aside(1, 0, -eighth-1), flat, whole(2), nones, api.Unsure},
		{"n's X at the bounds", up, at(8192, 0, 1), whole(3), at(-16384, 0, 1), api.Yes}, {"n's X past them", up, box(point(eighth+1), whole(0), whole(1)), whole(3), nones, api.Unsure}, {"n's Y at the bounds", up, at(0, -8192, 1), whole(3), at(0, 16384, 1), api.Yes}, {"n's Y past them", up, box(whole(0), point(-eighth-1), whole(1)), whole(3), nones, api.Unsure},
		{"n's Z at the bounds", flat, at(1, 0, 8192), whole(3), at(1, 0, -16384), api.Yes}, {"n's Z past them", flat, aside(1, 0, eighth+1), whole(3), nones, api.Unsure},
		{"both, at the bounds", far(-16382*one, 16383*one), at(1, 1, 0), whole(-1), at(16384, -16381, -3), api.Yes}, {"both, past them", far(-16382*one-1, 16383*one+1), at(1, 1, 0), whole(-1), nones, api.Unsure},
		{"one end of X alone", box(of(-one, eighth+1), whole(0), whole(1)), up, whole(2), nones, api.Unsure}, {"one end of the ratio alone", at(8192, 0, 1), up, of(2*one, 2*one+1), nones, api.Unsure},
	})
}

// TestWide: ways and ratios that are wide, each alone and all.
func TestWide(t *testing.T) {
	about, slant := box(of(-3000, 2000), of(-1000, 5000), of(65300, one)), box(of(8000, 9000), of(-20100, -20000), of(61800, 61900))
	n := box(of(-4000, 6000), of(-500, 500), of(65200, one))
	sharp := near(39321, 0, 52428)
	all := of(-most, most)
	checkRows(t, []row{
		{"d about the axis, into glass", about, up, into, box(of(-2001, 1334), of(-667, 3334), of(65271, 65695)), api.Yes}, {"d about the axis, out of it", about, up, out, box(of(-4500, 3000), of(-1500, 7500), of(64648, 65890)), api.Yes}, {"n wide, into glass", up, n, into, box(of(-1348, 2021), of(-169, 169), of(65273, 65761)), api.Yes}, {"n wide, out of it", up, n, out, box(of(-3070, 2047), of(-256, 256), of(64776, 66206)), api.Yes},
		{"both, into glass", about, n, into, box(of(-3377, 3398), of(-839, 3506), of(64725, 66227)), api.Yes}, {"both, out of it", about, n, out, box(of(-7715, 5144), of(-1768, 7768), of(62837, 67525)), api.Yes}, {"aslant, into glass", slant, n, into, box(of(3877, 8185), of(-13583, -13151), of(62634, 65118)), api.Yes}, {"aslant, out of it", slant, n, out, box(of(8331, 15946), of(-30456, -29694), of(52631, 61234)), api.Yes},
		{"the ratio below 1", slant, up, of(43000, 44000), box(of(5249, 6043), of(-13495, -13122), of(62867, 65008)), api.Yes}, {"the ratio about 1", slant, up, of(65000, 66000), box(of(7934, 9064), of(-20243, -19836), of(60699, 63007)), api.Yes}, {"the ratio about 0", slant, n, of(-66000, 66000), box(of(-16929, 20862), of(-21227, 21227), of(-64955, 191199)), api.Yes}, {"all three", slant, n, of(65000, 66000), box(of(7694, 9306), of(-20264, -19815), of(58678, 64981)), api.Yes},
		{"perhaps thrown back", box(of(40000, 50000), whole(0), of(42000, 52000)), up, out, nones, api.Unsure}, {"thrown back", box(of(45000, 50000), whole(0), of(42000, 47000)), up, out, nones, api.No}, {"perhaps thrown back, by n", sharp, box(of(-9000, 0), whole(0), of(64900, one)), out, nones, api.Unsure}, {"thrown back, by n", sharp, box(of(-19000, -15000), whole(0), of(62000, 63000)), out, nones, api.No},
		{"all aside", box(all, all, whole(1)), up, whole(1), box(all, all, whole(1)), api.Yes}, {"all ways", box(all, all, all), up, whole(1), nones, api.Unsure}, {"all that there is", box(all, all, all), box(all, all, all), all, nones, api.Unsure},
	})
}

// ways are how the answer is reckoned.
type ways struct {
	g      func(d, n api.V) api.Iv
	ahead  func(g api.Iv) bool
	k      func(d, n api.V, ratio, g api.Iv) api.Iv
	behind func(k api.Iv) api.Tri
	bent   func(d, n api.V, ratio, g, k api.Iv) api.V
	right  func(a api.V) bool
}

// thinned is k by what is done of the ratio and of 1 less g's square.
func thinned(f func(ratio, rest api.Iv) api.Iv) func(d, n api.V, ratio, g api.Iv) api.Iv {
	return func(_, _ api.V, ratio, g api.Iv) api.Iv {
		return iv.Sub(whole(1), f(ratio, iv.Sub(whole(1), iv.Sqr(g))))
	}
}

// parted is the sum by what is done of the ratio, of g and of k.
func parted(f func(ratio, g, k api.Iv) api.Iv) func(d, n api.V, ratio, g, k api.Iv) api.V {
	return func(d, n api.V, ratio, g, k api.Iv) api.V {
		return vec.Add(vec.Scale(d, ratio), vec.Scale(n, f(ratio, g, k)))
	}
}

// written are the ways as the chapter writes them.
func written() ways {
	return ways{
		g:     vec.Dot,
		ahead: func(g api.Iv) bool { return iv.Right(g) && g.Lo > 0 },
		k:     thinned(func(ratio, rest api.Iv) api.Iv { return iv.Mul(iv.Sqr(ratio), rest) }),
		behind: func(k api.Iv) api.Tri {
			switch {
			case !iv.Right(k):
				return api.Unsure
			case k.Hi < 0:
				return api.No
			case k.Lo < 0:
				return api.Unsure
			}
			return api.Yes
		},
		bent:  parted(func(ratio, g, k api.Iv) api.Iv { return iv.Sub(iv.Root(k), iv.Mul(ratio, g)) }),
		right: vec.Right,
	}
}

// said is what Bend ought to answer, by the ways.
func (w ways) said(d, n api.V, ratio api.Iv) (api.V, api.Tri) {
	g := w.g(d, n)
	if !w.ahead(g) {
		return nones, api.Unsure
	}
	k := w.k(d, n, ratio, g)
	if is := w.behind(k); is != api.Yes {
		return nones, is
	}
	if a := w.bent(d, n, ratio, g, k); w.right(a) {
		return a, api.Yes
	}
	return nones, api.Unsure
}

// products are ways of g that differ from the chapter's.
func products() map[string]func(d, n api.V) api.Iv {
	return map[string]func(d, n api.V) api.Iv{
		"of d by its length": func(d, n api.V) api.Iv { return vec.Dot(vec.Unit(d), n) },
		"of n by its length": func(d, n api.V) api.Iv { return vec.Dot(d, vec.Unit(n)) },
		"of both by theirs":  func(d, n api.V) api.Iv { return vec.Dot(vec.Unit(d), vec.Unit(n)) },
		"by the lengths":     func(d, n api.V) api.Iv { return iv.Div(vec.Dot(d, n), iv.Root(iv.Mul(vec.Len2(d), vec.Len2(n)))) },
		"the other way":      func(d, n api.V) api.Iv { return iv.Neg(vec.Dot(d, n)) },
		"n turned over, where it is behind": func(d, n api.V) api.Iv {
			if g := vec.Dot(d, n); g.Hi >= 0 {
				return g
			}
			return iv.Neg(vec.Dot(d, n))
		},
		"y and z first": func(d, n api.V) api.Iv {
			return iv.Add(iv.Mul(d.X, n.X), iv.Add(iv.Mul(d.Y, n.Y), iv.Mul(d.Z, n.Z)))
		},
		"x and z first": func(d, n api.V) api.Iv {
			return iv.Add(iv.Add(iv.Mul(d.X, n.X), iv.Mul(d.Z, n.Z)), iv.Mul(d.Y, n.Y))
		},
		"at most 1":      func(d, n api.V) api.Iv { return iv.Meet(vec.Dot(d, n), of(-one, one)) },
		"d's Z":          func(d, n api.V) api.Iv { return d.Z },
		"by the squares": func(d, n api.V) api.Iv { return iv.Root(iv.Sqr(vec.Dot(d, n))) },
	}
}

// squares are ways of k that differ from the chapter's.
func squares() map[string]func(d, n api.V, ratio, g api.Iv) api.Iv {
	mul, sqr, sub := iv.Mul, iv.Sqr, iv.Sub
	m := map[string]func(d, n api.V, ratio, g api.Iv) api.Iv{
		"a difference of squares": func(_, _ api.V, ratio, g api.Iv) api.Iv {
			return sub(whole(1), sub(sqr(ratio), sqr(mul(ratio, g))))
		},
		"a difference of products": func(_, _ api.V, ratio, g api.Iv) api.Iv {
			return sub(whole(1), sub(sqr(ratio), mul(sqr(ratio), sqr(g))))
		},
		"1 less the ratio's square first": func(_, _ api.V, ratio, g api.Iv) api.Iv {
			return iv.Add(sub(whole(1), sqr(ratio)), mul(sqr(ratio), sqr(g)))
		},
		"so, of a square": func(_, _ api.V, ratio, g api.Iv) api.Iv {
			return iv.Add(sub(whole(1), sqr(ratio)), sqr(mul(ratio, g)))
		},
		"the rest by sum and difference": func(_, _ api.V, ratio, g api.Iv) api.Iv {
			return sub(whole(1), mul(sqr(ratio), mul(sub(whole(1), g), iv.Add(whole(1), g))))
		},
		"the rest by sum and difference, one by one": func(_, _ api.V, ratio, g api.Iv) api.Iv {
			return sub(whole(1), mul(mul(ratio, sub(whole(1), g)), mul(ratio, iv.Add(whole(1), g))))
		},
		"the rest by d's length": func(d, _ api.V, ratio, g api.Iv) api.Iv {
			return sub(whole(1), mul(sqr(ratio), sub(vec.Len2(d), sqr(g))))
		},
		"the rest by what of d lies along the face": func(d, n api.V, ratio, g api.Iv) api.Iv {
			return sub(whole(1), mul(sqr(ratio), vec.Len2(vec.Sub(d, vec.Scale(n, g)))))
		},
		"1 by d's length": func(d, n api.V, ratio, g api.Iv) api.Iv {
			return sub(vec.Len2(d), mul(sqr(ratio), sub(whole(1), sqr(g))))
		},
		"g once": func(_, _ api.V, ratio, g api.Iv) api.Iv {
			return sub(whole(1), mul(sqr(ratio), sub(whole(1), g)))
		},
		"g's square alone": func(_, _ api.V, ratio, g api.Iv) api.Iv { return sub(whole(1), mul(sqr(ratio), sqr(g))) },
		"without 1":        func(_, _ api.V, ratio, g api.Iv) api.Iv { return mul(sqr(ratio), sub(whole(1), sqr(g))) },
		"never below 0":    func(d, n api.V, ratio, g api.Iv) api.Iv { return iv.Meet(written().k(d, n, ratio, g), of(0, most)) },
		"at most 1":        func(d, n api.V, ratio, g api.Iv) api.Iv { return iv.Meet(written().k(d, n, ratio, g), of(-most, one)) },
	}
	for name, f := range map[string]func(ratio, rest api.Iv) api.Iv{
		"a product for the ratio's square": func(ratio, rest api.Iv) api.Iv { return mul(mul(ratio, ratio), rest) },
		"the ratio, then the ratio":        func(ratio, rest api.Iv) api.Iv { return mul(ratio, mul(ratio, rest)) },
		"the square of a root":             func(ratio, rest api.Iv) api.Iv { return sqr(mul(ratio, iv.Root(rest))) },
		"the ratio once":                   mul,
		"no ratio":                         func(ratio, rest api.Iv) api.Iv { return rest },
		"by the ratio's square":            func(ratio, rest api.Iv) api.Iv { return iv.Div(rest, sqr(ratio)) },
		"the rest never below 0":           func(ratio, rest api.Iv) api.Iv { return mul(sqr(ratio), iv.Meet(rest, of(0, most))) },
		"the rest's square":                func(ratio, rest api.Iv) api.Iv { return mul(sqr(ratio), sqr(rest)) },
	} {
		m[name] = thinned(f)
	}
	return m
}

// sums are ways of the answer that differ from the chapter's.
func sums() map[string]func(d, n api.V, ratio, g, k api.Iv) api.V {
	mul, sub, scale := iv.Mul, iv.Sub, vec.Scale
	w := written()
	m := map[string]func(d, n api.V, ratio, g, k api.Iv) api.V{
		"d and n's part of it first": func(d, n api.V, ratio, g, k api.Iv) api.V {
			return vec.Add(vec.Sub(scale(d, ratio), scale(n, mul(ratio, g))), scale(n, iv.Root(k)))
		},
		"n's parts one by one": func(d, n api.V, ratio, g, k api.Iv) api.V {
			return vec.Add(scale(d, ratio), vec.Sub(scale(n, iv.Root(k)), scale(n, mul(ratio, g))))
		},
		"d less n's part, by the ratio": func(d, n api.V, ratio, g, k api.Iv) api.V {
			return vec.Add(scale(vec.Sub(d, scale(n, g)), ratio), scale(n, iv.Root(k)))
		},
		"all by the ratio": func(d, n api.V, ratio, g, k api.Iv) api.V {
			return scale(vec.Add(d, scale(n, sub(iv.Div(iv.Root(k), ratio), g))), ratio)
		},
		"n by g, then by the ratio": func(d, n api.V, ratio, g, k api.Iv) api.V {
			return vec.Add(scale(d, ratio), vec.Sub(scale(n, iv.Root(k)), scale(scale(n, g), ratio)))
		},
		"1 long": func(d, n api.V, ratio, g, k api.Iv) api.V { return vec.Unit(w.bent(d, n, ratio, g, k)) },
		"n's part away": func(d, n api.V, ratio, g, k api.Iv) api.V {
			return vec.Sub(scale(d, ratio), scale(n, sub(iv.Root(k), mul(ratio, g))))
		},
		"d as it is": func(d, n api.V, ratio, g, k api.Iv) api.V {
			return vec.Add(d, scale(n, sub(iv.Root(k), mul(ratio, g))))
		},
		"d by the ratio":  func(d, _ api.V, ratio, _, _ api.Iv) api.V { return scale(d, ratio) },
		"n's part alone":  func(_, n api.V, ratio, g, k api.Iv) api.V { return scale(n, sub(iv.Root(k), mul(ratio, g))) },
		"the other way":   func(d, n api.V, ratio, g, k api.Iv) api.V { return vec.Sub(vec.Sub(d, d), w.bent(d, n, ratio, g, k)) },
		"d and n changed": func(d, n api.V, ratio, g, k api.Iv) api.V { return w.bent(n, d, ratio, g, k) },
	}
	for name, f := range map[string]func(ratio, g, k api.Iv) api.Iv{
		"the other root":        func(ratio, g, k api.Iv) api.Iv { return sub(iv.Neg(iv.Root(k)), mul(ratio, g)) },
		"the root and ratio g":  func(ratio, g, k api.Iv) api.Iv { return iv.Add(iv.Root(k), mul(ratio, g)) },
		"ratio g less the root": func(ratio, g, k api.Iv) api.Iv { return sub(mul(ratio, g), iv.Root(k)) },
		"k for its root":        func(ratio, g, k api.Iv) api.Iv { return sub(k, mul(ratio, g)) },
		"g without the ratio":   func(ratio, g, k api.Iv) api.Iv { return sub(iv.Root(k), g) },
		"the ratio without g":   func(ratio, g, k api.Iv) api.Iv { return sub(iv.Root(k), ratio) },
		"g by the ratio":        func(ratio, g, k api.Iv) api.Iv { return sub(iv.Root(k), iv.Div(g, ratio)) },
		"the root alone":        func(_, _, k api.Iv) api.Iv { return iv.Root(k) },
		"ratio g by its square": func(ratio, g, k api.Iv) api.Iv { return sub(iv.Root(k), iv.Root(iv.Sqr(mul(ratio, g)))) },
		"a quotient": func(ratio, g, k api.Iv) api.Iv {
			rg := mul(ratio, g)
			return iv.Div(sub(k, iv.Sqr(rg)), iv.Add(iv.Root(k), rg))
		},
	} {
		m[name] = parted(f)
	}
	return m
}

// decisions are what is decided otherwise than in the chapter.
func decisions() map[string]func(w *ways) {
	behind := written().behind
	from := func(f func(k api.Iv) bool, is api.Tri) func(w *ways) {
		return func(w *ways) {
			w.behind = func(k api.Iv) api.Tri {
				if iv.Right(k) && f(k) {
					return is
				}
				return behind(k)
			}
		}
	}
	ahead := func(f func(g api.Iv) bool) func(w *ways) {
		return func(w *ways) { w.ahead = func(g api.Iv) bool { return iv.Right(g) && f(g) } }
	}
	return map[string]func(w *ways){
		"g.Lo of 0 is enough": ahead(func(g api.Iv) bool { return g.Lo >= 0 }), "g.Hi above 0 is": ahead(func(g api.Iv) bool { return g.Hi > 0 }), "g.Hi of 0 is": ahead(func(g api.Iv) bool { return g.Hi >= 0 }), "g's middle is": ahead(func(g api.Iv) bool { return iv.Mid(g) > 0 }),
		"g.Lo of a step is not": ahead(func(g api.Iv) bool { return g.Lo > 1 }), "any g is": ahead(func(g api.Iv) bool { return true }), "g other than 0 is": ahead(func(g api.Iv) bool { return !iv.Has(g, 0) }),
		"No, if k.Hi is 0": from(func(k api.Iv) bool { return k.Hi <= 0 }, api.No), "No, if k.Lo is below 0": from(func(k api.Iv) bool { return k.Lo < 0 }, api.No), "No, if k.Lo is 0": from(func(k api.Iv) bool { return k.Lo <= 0 }, api.No), "Unsure, if k.Lo is 0": from(func(k api.Iv) bool { return k.Lo == 0 }, api.Unsure),
		"Unsure, if k.Hi is below 0": from(func(k api.Iv) bool { return k.Hi < 0 }, api.Unsure), "Unsure, if k.Hi is -1": from(func(k api.Iv) bool { return k.Hi == -1 }, api.Unsure),
		"No, if k is None": func(w *ways) {
			w.behind = func(k api.Iv) api.Tri {
				if k.No {
					return api.No
				}
				return behind(k)
			}
		},
		"Yes, if a part is None": func(w *ways) { w.right = func(a api.V) bool { return true } },
		"Yes, if one is not":     func(w *ways) { w.right = func(a api.V) bool { return iv.Right(a.X) || iv.Right(a.Y) || iv.Right(a.Z) } },
	}
}

// otherwise are ways that differ in one part from those of the chapter, in no call that is exact.
func otherwise() map[string]ways {
	m := map[string]ways{}
	add := func(name string, turn func(w *ways)) {
		w := written()
		turn(&w)
		m[name] = w
	}
	for name, f := range products() {
		add("g: "+name, func(w *ways) { w.g = f })
	}
	for name, f := range squares() {
		add("k: "+name, func(w *ways) { w.k = f })
	}
	for name, f := range sums() {
		add("the sum: "+name, func(w *ways) { w.bent = f })
	}
	for name, f := range decisions() {
		add("decided: "+name, f)
	}
	return m
}

// orders are the rows of TestOrder.
func orders() []row {
	return []row{
		{"a ratio about 0", box(of(-26010, -23059), of(-24105, -22918), of(63952, 64147)), box(of(-27568, -27407), of(326, 1286), of(55692, 55958)), of(-4045, 41959), box(of(-45937, -7892), of(-15322, 2855), of(15341, 100510)), api.Yes},
		{"a long way, perhaps behind", box(of(87673, 92464), of(-116599, -109035), of(136596, 140289)), box(of(-90976, -86612), of(34585, 43912), of(95256, 103892)), of(33416, 52050), nones, api.Unsure},
		{"a long way, perhaps thrown back", box(of(-43165, -36533), of(46731, 56114), of(107132, 108819)), box(of(84394, 91374), of(-33903, -31601), of(72506, 76781)), of(139351, 143333), nones, api.Unsure},
		{"from behind", box(of(-113805, -112985), of(-20620, -17350), of(1278, 9572)), box(of(52038, 62060), of(-120965, -118236), of(-16305, -8486)), of(74244, 92135), nones, api.Unsure},
		{"thrown back", box(of(35506, 37340), of(51859, 53563), of(50843, 58512)), box(of(110378, 115710), of(-45759, -44020), of(-3578, 3890)), of(118164, 128455), nones, api.No},
		{"x and y past the bounds", at(16384, 1, -16384), at(1, 1, 1), whole(0), nones, api.Unsure}, {"perhaps along", deep(0, one), up, point(half), nones, api.Unsure}, {"a step ahead", deep(1, 1), up, point(half), deep(56754, 56758), api.Yes},
		{"k of -1 to 0", deep(64768, 64768), up, point(429340), nones, api.Unsure}, {"k of 0 to 1", deep(64768, 64768), up, point(429339), deep(-1, 257), api.Yes}, {"k of -2 to -1", deep(64768, 64768), up, point(429343), nones, api.No},
		{"k that is None", up, up, point(128*one + 1), nones, api.Unsure}, {"X past the bounds", box(point(8192*one+1), whole(0), whole(1)), up, whole(2), nones, api.Unsure},
	}
}

// TestOrder: the calls are done as they are written: at these inputs each other way tells another answer.
func TestOrder(t *testing.T) {
	rows := orders()
	checkRows(t, rows)
	for name, w := range otherwise() {
		same := 0
		for _, r := range rows {
			if got, is := w.said(r.d, r.n, r.ratio); got == r.want && is == r.is {
				same++
			}
		}
		if same == len(rows) {
			t.Errorf("17.1: %q tells the same of every row", name)
		}
	}
}

// wrong are intervals that are not right: No, an end that is not In, Lo above Hi.
func wrong() []api.Iv {
	l := []api.Iv{
		none, {Lo: 1, Hi: 2, No: true}, {Lo: 0, Hi: one, No: true}, {Lo: one, Hi: one, No: true}, {Lo: most, Hi: most, No: true}, {Lo: 5, Hi: -5, No: true}, {Lo: math.MinInt, Hi: math.MaxInt, No: true},
		of(1, 0), of(0, -1), of(one+1, one), of(most, -most), of(most, most-1), of(math.MaxInt, math.MinInt), of(math.MinInt, math.MaxInt),
	}
	for _, end := range []int{most + 1, -most - 1, 1 << 32, -1 << 32, 1 << 62, math.MaxInt, math.MinInt, math.MinInt + 1} {
		l = append(l, of(end, end), of(min(0, end), max(0, end)), of(max(0, end), min(0, end)), of(-most, end), of(end, most))
	}
	return l
}

// some are ways, narrow and wide, numbers that are not right among them.
func some() []api.V {
	return []api.V{
		up, at(0, 0, -1), at(1, 0, 0), at(0, -1, 0), at(0, 0, 0), at(3, -5, 1), at(2, -1, 2), at(0, 0, 128), at(-16384, 16384, 1),
		near(39321, 0, 52428), near(21845, 43690, 43690), near(18724, -28087, 56173), near(-43691, -21846, 43690), near(29127, 29127, 50972), deep(1, 1), deep(0, one), deep(-1, one), deep(64768, 64768),
		box(of(-3000, 2000), of(-1000, 5000), of(65300, one)), box(of(8000, 9000), of(-20100, -20000), of(61800, 61900)), box(of(-4000, 6000), of(-500, 500), of(65200, one)), box(of(40000, 50000), whole(0), of(42000, 52000)), box(of(-one, one), of(-one, one), of(0, one)), box(of(-most, most), of(-most, most), whole(1)), box(of(-7, 9), of(-one, 1-one), of(-300, 200)),
		nones, box(none, whole(0), whole(1)), box(whole(0), of(5, 4), whole(1)), box(whole(0), whole(0), point(most+1)),
	}
}

// ratios are below, at and above 1, at 0 and below it, narrow and wide, numbers that are not right among them.
func ratios() []api.Iv {
	return []api.Iv{
		whole(1), whole(0), whole(-1), into, out, point(half), point(-3 * half), whole(2), whole(128), whole(-128), point(128*one + 1), point(1), point(-1), of(one-1, one+1), of(43000, 44000), of(65000, 70000), of(-70000, 65000), of(0, one), wholes(1, 2), wholes(-128, 128), of(429336, 429343), of(-most, most), point(most),
		none, of(3, 2), point(-most - 1),
	}
}

// TestWords: of all that can be handed in, right or not, the answer is by the words, and each time the same (R1, R4).
func TestWords(t *testing.T) {
	w := written()
	var count [3]int
	for _, d := range some() {
		for _, n := range some() {
			for _, ratio := range ratios() {
				want, is := w.said(d, n, ratio)
				for range 2 {
					check(t, row{"by the words", d, n, ratio, want, is})
				}
				count[is]++
			}
		}
	}
	if min(count[api.Yes], count[api.No], count[api.Unsure]) < 500 {
		t.Errorf("17.1: only %d answers, of Unsure, Yes, No", count)
	}
}

// TestNotRight: of a number of d, of n, or of a ratio that is not right, each in its turn, it is Unsure, though it would count for 0.
func TestNotRight(t *testing.T) {
	rows := []row{
		{"head on", up, up, out, up, api.Yes}, {"by a ratio of 0", at(1, -3, 1), up, whole(0), up, api.Yes}, {"aslant", near(29127, 29127, 50972), near(21845, 43690, 43690), out, box(of(32109, 32122), of(20529, 20552), of(53297, 53320)), api.Yes},
		{"thrown back", aside(3, -5, half), up, whole(2), nones, api.No}, {"thrown back, aslant", near(18724, -28087, 56173), near(-43691, -21846, 43690), out, nones, api.No}, {"perhaps", deep(0, one), up, out, nones, api.Unsure},
	}
	checkRows(t, rows)
	for _, bad := range wrong() {
		for _, r := range rows {
			for k := range 7 {
				other := r
				*numbersOf(&other)[k] = bad
				other.what, other.want, other.is = "a number that is not right", nones, api.Unsure
				checkTurned(t, []row{other})
			}
		}
		all := box(bad, bad, bad)
		checkTurned(t, []row{
			{"no way that is right", all, up, whole(1), nones, api.Unsure}, {"nothing right across", up, all, whole(1), nones, api.Unsure}, {"no ways that are right", all, all, whole(1), nones, api.Unsure}, {"nothing that is right", all, all, bad, nones, api.Unsure},
		})
	}
}

// lesser are some intervals that lie in a.
func lesser(a api.Iv) [7]api.Iv {
	n := within(a)
	return [7]api.Iv{a, point(n[0]), point(n[1]), point(n[3]), of(n[0], n[2]), of(n[1], n[3]), of(n[1], n[2])}
}

// lie are rows whose numbers lie in r's: some in one alone, some in d's, in n's, in all.
func lie(r row) (l []row) {
	for k := range 7 {
		for n := range 7 {
			inner := r
			*numbersOf(&inner)[n] = lesser(*numbersOf(&r)[n])[k]
			l = append(l, inner)
		}
		for _, ends := range [][2]int{{0, 3}, {3, 6}, {0, 7}} {
			inner := r
			for n := ends[0]; n < ends[1]; n++ {
				*numbersOf(&inner)[n] = lesser(*numbersOf(&r)[n])[(k+n*2+1)%7]
			}
			l = append(l, inner)
		}
	}
	return l
}

// boxes are rows that are right, and wide in their numbers.
func boxes() (l []row) {
	wide := []api.V{
		box(of(-3000, 2000), of(-1000, 5000), of(65300, one)), box(of(8000, 9000), of(-20100, -20000), of(61800, 61900)), box(of(-4000, 6000), of(-500, 500), of(65200, one)), box(of(40000, 50000), whole(0), of(42000, 52000)), box(of(45000, 50000), of(-90, 100), of(42000, 47000)),
		near(39321, 0, 52428), near(21845, 43690, 43690), box(of(-43800, -43600), of(-21900, -21800), of(43600, 43800)), box(of(-one, one), of(-one, one), of(30000, 300000)), box(of(one, 2*one), of(-one, 0), of(half, one)), box(of(60000, one), of(-9000, 9000), of(0, 9000)), deep(64700, 64800),
	}
	for _, d := range wide {
		for _, n := range append(wide, up) {
			for _, ratio := range []api.Iv{whole(1), into, out, of(43000, 44000), of(65000, 70000), of(98000, 98500), of(-70000, 65000), of(0, half), of(-99000, -98000), wholes(2, 3), of(429330, 429350)} {
				l = append(l, row{d: d, n: n, ratio: ratio})
			}
		}
	}
	return l
}

// TestLess: of less what is sure is sure, and the answer lies in the larger one's (17.2, W1).
func TestLess(t *testing.T) {
	var count, surer [3]int
	for _, r := range boxes() {
		more, is := snell.Bend(r.d, r.n, r.ratio)
		for _, inner := range lie(r) {
			got, sure := snell.Bend(inner.d, inner.n, inner.ratio)
			count[is]++
			if is == api.Unsure {
				surer[sure]++
				continue
			}
			if sure != is || is == api.Yes && !vec.Inside(got, more) {
				t.Errorf("17.2: Bend(%+v, %+v, %+v) = %+v, %d, but of more, %+v, %+v, %+v, it is %+v, %d", inner.d, inner.n, inner.ratio, got, sure, r.d, r.n, r.ratio, more, is)
			}
		}
	}
	// What is Unsure allows anything: the test is one only while much is sure.
	if min(count[api.Yes], count[api.No]) < 5000 || min(surer[api.Yes], surer[api.No]) < 500 {
		t.Errorf("17.2: only %d answers are of Unsure, Yes, No, and %d of less of what is Unsure", count, surer)
	}
}

// TestNeverBoth: where of less some is bent and some thrown back, all of it is neither (W2).
func TestNeverBoth(t *testing.T) {
	both := 0
	for _, r := range boxes() {
		var seen [3]bool
		for _, inner := range lie(r) {
			_, is := snell.Bend(inner.d, inner.n, inner.ratio)
			seen[is] = true
		}
		_, is := snell.Bend(r.d, r.n, r.ratio)
		if is == api.Yes && seen[api.No] || is == api.No && seen[api.Yes] {
			t.Errorf("W2: Bend(%+v, %+v, %+v) is %d, and the other of less of it", r.d, r.n, r.ratio, is)
		}
		if seen[api.Yes] && seen[api.No] {
			both++
		}
	}
	if both < 50 {
		t.Errorf("W2: only %d boxes are bent in part, and thrown back in part", both)
	}
}

// TestHeld: of exact ways and ratios in a box what is bent lies in its answer, and is thrown back where that is No (W1).
func TestHeld(t *testing.T) {
	var count [3]int
	for _, r := range boxes() {
		got, is := snell.Bend(r.d, r.n, r.ratio)
		for _, n := range members(r) {
			checkHeld(t, got, is, n)
			count[is]++
		}
	}
	if min(count[api.Yes], count[api.No]) < 300 {
		t.Errorf("W1: only %d answers were held, of Unsure, Yes, No", count)
	}
}

// TestTurned: of ways that are turned by quarters, and mirrored, the answer is turned, and mirrored (W3).
func TestTurned(t *testing.T) {
	for _, r := range boxes() {
		r.what = "turned"
		r.want, r.is = snell.Bend(r.d, r.n, r.ratio)
		checkTurned(t, []row{r})
	}
}

// TestStays: with the ratio 1 a way across has itself in the answer; so has any other way that is bent (17.2).
func TestStays(t *testing.T) {
	units := 0
	for _, n := range some() {
		got, is := snell.Bend(n, n, whole(1))
		long := vec.Len2(n)
		if iv.Right(long) && long.Lo > half && long.Hi < 2*one && vec.Dot(n, n).Lo > 0 {
			units++
			if is != api.Yes {
				t.Errorf("17.2: Bend(%+v, %+v, 1) is %d", n, n, is)
			}
		}
		if is == api.No || is == api.Yes && !vec.Inside(n, got) {
			t.Errorf("17.2: Bend(%+v, %+v, 1) = %+v, %d", n, n, got, is)
		}
		for _, d := range some() {
			if got, is := snell.Bend(d, n, whole(1)); is == api.No || is == api.Yes && !vec.Inside(d, got) {
				t.Errorf("17.2: Bend(%+v, %+v, 1) = %+v, %d", d, n, got, is)
			}
		}
	}
	if units < 8 {
		t.Errorf("17.2: only %d ways are about 1 long", units)
	}
	for k := range 200 {
		n := vec.Unit(box(point(k*977-90000), point(k*k*7-60001), point(30000+k*311)))
		if got, is := snell.Bend(n, n, whole(1)); is != api.Yes || !vec.Inside(n, got) || got.Z.Hi-got.Z.Lo > 60 {
			t.Errorf("17.2: Bend(%+v, %+v, 1) = %+v, %d", n, n, got, is)
		}
	}
}

// cross is the way that is upright to both, as long as they are aside from one another.
func cross(a, b api.V) api.V {
	part := func(p, q, r, s api.Iv) api.Iv { return iv.Sub(iv.Mul(p, q), iv.Mul(r, s)) }
	return box(part(a.Y, b.Z, a.Z, b.Y), part(a.Z, b.X, a.X, b.Z), part(a.X, b.Y, a.Y, b.X))
}

// meet tells whether something lies in both.
func meet(a, b api.V) bool {
	return iv.Right(iv.Meet(a.X, b.X)) && iv.Right(iv.Meet(a.Y, b.Y)) && iv.Right(iv.Meet(a.Z, b.Z))
}

// checkSine holds a bent way by the law: it is 1 long, goes on ahead, and lies aside from n as d does, by the ratio; back by the ratio's other side it comes to d; and it is at most so wide.
func checkSine(t *testing.T, d, n api.V, ratio api.Iv, most int) {
	t.Helper()
	got, is := snell.Bend(d, n, ratio)
	if is != api.Yes {
		t.Errorf("17.1: Bend(%+v, %+v, %+v) is %d", d, n, ratio, is)
		return
	}
	back, sure := snell.Bend(got, n, iv.Div(whole(1), ratio))
	if !iv.Has(vec.Len2(got), one) || vec.Dot(got, n).Hi <= 0 || !meet(cross(got, n), vec.Scale(cross(d, n), ratio)) || sure == api.No || sure == api.Yes && !meet(back, d) {
		t.Errorf("17.1: Bend(%+v, %+v, %+v) = %+v, and back %+v, %d", d, n, ratio, got, back, sure)
	}
	if wide := max(got.X.Hi-got.X.Lo, got.Y.Hi-got.Y.Lo, got.Z.Hi-got.Z.Lo); wide > most {
		t.Errorf("17.1: Bend(%+v, %+v, %+v) = %+v: %d wide", d, n, ratio, got, wide)
	}
}

// TestSine: of ways 1 long, by ratios above 0, where not all is thrown back.
func TestSine(t *testing.T) {
	held := 0
	for k := range 400 {
		d := vec.Unit(box(point(k%20*5003-50001), point(k/20*4001-40007), whole(1)))
		n := vec.Unit(box(point(k%7*5000-15011), point(k%11*4000-19997), whole(1)))
		for _, ratio := range []api.Iv{point(20000), point(half), into, point(one - 1), whole(1), of(72089, 72090), out, whole(2)} {
			if square := written().k(d, n, ratio, vec.Dot(d, n)); vec.Dot(d, n).Lo < one/8 || square.Lo < one/64 {
				continue
			}
			held++
			checkSine(t, d, n, ratio, one/16)
		}
	}
	if held < 1000 {
		t.Errorf("17.1: only %d ways were held", held)
	}
}

// TestOfLens: where rays meet the faces of a lens that was read, bent by its glasses (W1), and what is bent is narrow.
func TestOfLens(t *testing.T) {
	g, _, e := glass.Read("glass crown 1.03961 0.006001 0.23179 0.020018 1.01047 103.56\nglass flint 1.34534 0.009977 0.20907 0.04705 0.93736 111.887\n")
	if e != api.OK {
		t.Fatalf("11.1: %d", e)
	}
	l, _, e := lens.Read("lens a 40\nface -50.3 10 2 crown\nface 17.1 5 2 flint conic -0.5\nface 0 5 2 air\nstop 4 1\nface 31.7 5 2 crown a4 0.7 a6 -1.9\nface -9.9 5 2 air conic 0.31\n", g)
	if e != api.OK {
		t.Fatalf("12.1: %d", e)
	}
	for line := range 3 {
		s, e := system.Build(l, g, glass.Line(line))
		if e != api.OK {
			t.Fatalf("13.1: %d", e)
		}
		for k, surf := range s.Surfs {
			for n := range 40 {
				ray := api.Ray{O: box(point(n*997-30000), point(20000-n*31), whole(0)), D: vec.Unit(box(point(n*50-1000), point(1500-n*43), whole(1)))}
				_, p, is := hit.Of(surf, ray)
				if is != api.Yes {
					t.Errorf("15.1: face %d by %+v is %d", k, ray, is)
					continue
				}
				across := normal.Of(surf, p)
				checkSine(t, ray.D, across, surf.Ratio, one/3)
				r := row{d: ray.D, n: across, ratio: surf.Ratio}
				r.want, r.is = snell.Bend(r.d, r.n, r.ratio)
				for _, n := range members(r) {
					checkHeld(t, r.want, r.is, n)
				}
			}
		}
	}
}

// TestNothingPanics: whatever is handed in; an answer is right, or three Nones, which have Lo and Hi 0 (R1, R3).
func TestNothingPanics(t *testing.T) {
	ints := []int{math.MinInt, -1 << 32, -most - 1, -most, -1, 0, 1, 256, one, most, most + 1, 1 << 32, math.MaxInt}
	for n, a := range ints {
		for m, b := range ints {
			for k := range 96 {
				x, y := api.Iv{Lo: a, Hi: b, No: k%16 == 15}, of(ints[(n+k)%13], ints[(m+k*3)%13])
				l := [7]api.Iv{x, whole(1), whole(0), y, of(a, a), of(b, b), whole(1)}
				var r row
				for i, number := range numbersOf(&r) {
					*number = l[(k*(i+1)/3+i)%7]
				}
				got, is := snell.Bend(r.d, r.n, r.ratio)
				if is == api.Yes && !vec.Right(got) || is != api.Yes && (got != nones || is != api.No && is != api.Unsure) {
					t.Errorf("17.1: Bend(%+v, %+v, %+v) = %+v, %d", r.d, r.n, r.ratio, got, is)
				}
				if again, sure := snell.Bend(r.d, r.n, r.ratio); again != got || sure != is {
					t.Errorf("R4: Bend(%+v, %+v, %+v) = %+v, %d, then %+v, %d", r.d, r.n, r.ratio, got, is, again, sure)
				}
			}
		}
	}
	check(t, row{"of numbers that are 0", api.V{}, api.V{}, api.Iv{}, nones, api.Unsure})
}

// TestAsOften: the same is answered however often it is asked, whatever was asked between, and nothing that is handed in is changed (R2, R4).
func TestAsOften(t *testing.T) {
	rows := []row{
		{"head on", up, up, out, up, api.Yes}, {"aslant", near(39321, 0, 52428), up, into, box(of(26213, 26215), whole(0), of(60062, 60068)), api.Yes}, {"thrown back", aside(3, -5, half), up, whole(2), nones, api.No},
		{"perhaps", deep(0, one), up, out, nones, api.Unsure}, {"a number that is none", box(none, whole(0), whole(1)), up, out, nones, api.Unsure},
	}
	kept := append([]row(nil), rows...)
	for range 3 {
		for k := range rows {
			checkRows(t, rows[k:k+1])
			for _, r := range rows {
				snell.Bend(r.d, r.n, r.ratio)
				snell.Bend(r.n, nones, none)
			}
			checkRows(t, rows[k:k+1])
		}
	}
	for k := range rows {
		if rows[k] != kept[k] {
			t.Errorf("R2: %+v was changed", kept[k])
		}
	}
}

// FuzzBend: nothing panics, and each answer is as the document says.
func FuzzBend(f *testing.F) {
	f.Add(0, 0, one, 0, 0, one, 3*half, 0)
	f.Add(39321, 0, 52428, -3000, 500, 65400, 43690, 9)
	f.Add(18724, -28087, 56173, -43691, -21846, 43690, -most, 300)
	f.Add(math.MinInt, math.MaxInt, most, one, 5, 1, 0, 1)
	f.Fuzz(func(t *testing.T, dx, dy, dz, nx, ny, nz, ratio, wide int) {
		var r row
		for k, number := range numbersOf(&r) {
			lo := []int{dx, dy, dz, nx, ny, nz, ratio}[k]
			*number = of(lo, lo+wide>>k)
		}
		got, is := snell.Bend(r.d, r.n, r.ratio)
		if want, sure := written().said(r.d, r.n, r.ratio); got != want || is != sure {
			t.Errorf("17.1: Bend(%+v, %+v, %+v) = %+v, %d, not %+v, %d", r.d, r.n, r.ratio, got, is, want, sure)
		}
		for _, n := range members(r) {
			checkHeld(t, got, is, n)
		}
	})
}

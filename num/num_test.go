package num_test

import (
	"math"
	"math/big"
	"testing"

	"meniscus/api"
	"meniscus/num"
)

const most = api.Most

// pair is a call of two numbers that is rounded.
type pair func(a, b int, up bool) (int, bool)

// notIn are ints that are no numbers.
var notIn = []int{most + 1, -most - 1, math.MaxInt32 + 1, math.MinInt32, 1 << 32, -1 << 32, 1 << 48, -1 << 48, math.MaxInt, math.MinInt, math.MinInt + 1}

// someNumbers are numbers of all sizes and both signs, edges among them.
func someNumbers() []int {
	ns := []int{0, 3, 7, 10, 100, 1000, 21845, 98304, 131071, 1000003, 123456789, 1 << 29, most - 1, most}
	for bit := 0; bit < 30; bit += 3 {
		ns = append(ns, 1<<bit, 1<<bit+1)
	}
	ns = append(ns, api.One-1, api.One, api.One+1)
	for _, n := range ns {
		ns = append(ns, -n)
	}
	return ns
}

// floorOf is a / b, floored, in numbers that don't end.
func floorOf(a, b *big.Int) *big.Int {
	q, m := new(big.Int).DivMod(a, b, new(big.Int))
	if b.Sign() < 0 && m.Sign() != 0 {
		// DivMod leaves a rest of 0 or more, so that it cuts upward here.
		q.Sub(q, big.NewInt(1))
	}
	return q
}

// rounded is what a call answers whose exact answer is a / b.
func rounded(a, b *big.Int, up bool) (int, bool) {
	q := floorOf(a, b)
	if up {
		q = floorOf(new(big.Int).Neg(a), b)
		q.Neg(q)
	}
	if q.CmpAbs(big.NewInt(most)) > 0 {
		return 0, false
	}
	return int(q.Int64()), true
}

// product is a * b.
func product(a, b int) *big.Int {
	return new(big.Int).Mul(big.NewInt(int64(a)), big.NewInt(int64(b)))
}

func TestIn(t *testing.T) {
	for _, n := range someNumbers() {
		if !num.In(n) {
			t.Errorf("1.1: In(%d) is false", n)
		}
	}
	for _, n := range notIn {
		if num.In(n) {
			t.Errorf("1.1: In(%d) is true", n)
		}
	}
}

func TestFloor(t *testing.T) {
	for _, c := range []struct{ a, b, want int }{
		{0, 1, 0}, {0, -1, 0}, {0, 7, 0}, {0, -7, 0},
		{7, 2, 3}, {-7, 2, -4}, {7, -2, -4}, {-7, -2, 3},
		{6, 2, 3}, {-6, 2, -3}, {6, -2, -3}, {-6, -2, 3},
		{1, 3, 0}, {-1, 3, -1}, {1, -3, -1}, {-1, -3, 0},
		{0, 0, 0}, {1, 0, 0}, {-1, 0, 0}, {math.MaxInt, 0, 0}, {math.MinInt, 0, 0},
		{math.MaxInt, 1, math.MaxInt}, {math.MaxInt, -1, -math.MaxInt},
		{math.MinInt, 1, math.MinInt}, {math.MinInt, math.MinInt, 1},
		{math.MaxInt, math.MaxInt, 1}, {math.MinInt, math.MaxInt, -2}, {math.MaxInt, math.MinInt, -1},
		{math.MinInt, 2, math.MinInt / 2}, {math.MinInt, 3, math.MinInt/3 - 1},
		{1, math.MaxInt, 0}, {-1, math.MaxInt, -1}, {1, math.MinInt, -1}, {-1, math.MinInt, 0},
	} {
		if got := num.Floor(c.a, c.b); got != c.want {
			t.Errorf("1.1: Floor(%d, %d) = %d, not %d", c.a, c.b, got, c.want)
		}
	}
}

func TestFloorAgainstBig(t *testing.T) {
	ints := append(someNumbers(), notIn...)
	for _, a := range ints {
		for _, b := range ints {
			if b == 0 {
				continue
			}
			want := floorOf(big.NewInt(int64(a)), big.NewInt(int64(b)))
			if !want.IsInt64() {
				// The least int by -1 is more than an int holds.
				num.Floor(a, b)
				continue
			}
			if got := num.Floor(a, b); int64(got) != want.Int64() {
				t.Errorf("1.1: Floor(%d, %d) = %d, not %d", a, b, got, want)
			}
		}
	}
}

// TestFloorBeyond: its quotient is no int; it answers all the same (R1).
func TestFloorBeyond(t *testing.T) {
	num.Floor(math.MinInt, -1)
}

// checkPair asks for an answer rounded down, and up.
func checkPair(t *testing.T, name string, call pair, a, b, low, top int, lowOK, topOK bool) {
	t.Helper()
	if got, ok := call(a, b, false); got != low || ok != lowOK {
		t.Errorf("1.1: %s(%d, %d, false) = %d, %t, not %d, %t", name, a, b, got, ok, low, lowOK)
	}
	if got, ok := call(a, b, true); got != top || ok != topOK {
		t.Errorf("1.1: %s(%d, %d, true) = %d, %t, not %d, %t", name, a, b, got, ok, top, topOK)
	}
}

// TestMulExample: the example of chapter 1.
func TestMulExample(t *testing.T) {
	checkPair(t, "Mul", num.Mul, -1, 1, -1, 0, true, true)
}

func TestMul(t *testing.T) {
	for _, c := range []struct {
		a, b, low, top int
		lowOK, topOK   bool
	}{
		{0, 0, 0, 0, true, true}, {0, most, 0, 0, true, true}, {-most, 0, 0, 0, true, true},
		{1, 1, 0, 1, true, true}, {1, -1, -1, 0, true, true}, {-1, -1, 0, 1, true, true},
		{api.One, api.One, api.One, api.One, true, true}, {-api.One, 7, -7, -7, true, true},
		{98304, 98304, 147456, 147456, true, true},
		{3, 32768, 1, 2, true, true}, {-3, 32768, -2, -1, true, true}, {-3, -32768, 1, 2, true, true},
		{most, api.One, most, most, true, true}, {-most, api.One, -most, -most, true, true}, {-most, -api.One, most, most, true, true},
		{32768, most, 1 << 29, 1 << 29, true, true},
		// Most exactly, and more.
		{1 << 23, 1 << 23, most, most, true, true}, {1<<23 + 1, 1 << 23, 0, 0, false, false},
		{-1 << 23, 1 << 23, -most, -most, true, true}, {-1<<23 - 1, 1 << 23, 0, 0, false, false},
		{most - 1, api.One + 1, 0, 0, false, false},
		{most, most, 0, 0, false, false}, {most, -most, 0, 0, false, false}, {-most, -most, 0, 0, false, false},
	} {
		checkPair(t, "Mul", num.Mul, c.a, c.b, c.low, c.top, c.lowOK, c.topOK)
	}
}

// TestMulAtTheBound: an answer between Most and one beyond is In when rounded one way alone.
func TestMulAtTheBound(t *testing.T) {
	// 8388607 * 8388609 = 2^46 - 1: a part of a step below Most.
	checkPair(t, "Mul", num.Mul, 8388607, 8388609, most-1, most, true, true)
	checkPair(t, "Mul", num.Mul, -8388607, 8388609, -most, 1-most, true, true)
	// 119537917 * 588673 = 2^46 + 36477: a part of a step above Most.
	over := 119537917
	checkPair(t, "Mul", num.Mul, over, 588673, most, 0, true, false)
	checkPair(t, "Mul", num.Mul, -over, 588673, 0, -most, false, true)
}

func TestDiv(t *testing.T) {
	for _, c := range []struct {
		a, b, low, top int
		lowOK, topOK   bool
	}{
		{0, 9, 0, 0, true, true}, {0, -9, 0, 0, true, true}, {0, most, 0, 0, true, true},
		{1, 3, 21845, 21846, true, true}, {-1, 3, -21846, -21845, true, true},
		{1, -3, -21846, -21845, true, true}, {-1, -3, 21845, 21846, true, true},
		{-6, -3, 131072, 131072, true, true}, {6, -3, -131072, -131072, true, true},
		{1, most, 0, 1, true, true}, {-1, most, -1, 0, true, true},
		{most, most, api.One, api.One, true, true}, {most, -most, -api.One, -api.One, true, true},
		{most, api.One, most, most, true, true}, {most, -api.One, -most, -most, true, true},
		{most, api.One - 1, 0, 0, false, false}, {-most, api.One - 1, 0, 0, false, false},
		{1 << 14, 1, most, most, true, true}, {-1 << 14, 1, -most, -most, true, true},
		{1<<14 + 1, 1, 0, 0, false, false}, {-1<<14 - 1, 1, 0, 0, false, false},
		{most, 1, 0, 0, false, false}, {most, -1, 0, 0, false, false},
		{0, 0, 0, 0, false, false}, {5, 0, 0, 0, false, false}, {-5, 0, 0, 0, false, false}, {most, 0, 0, 0, false, false},
	} {
		checkPair(t, "Div", num.Div, c.a, c.b, c.low, c.top, c.lowOK, c.topOK)
	}
}

// TestDivAtTheBound: a quotient of numbers that is above Most is a step above it, or more: One divides Most.
func TestDivAtTheBound(t *testing.T) {
	checkPair(t, "Div", num.Div, most-1, api.One, most-1, most-1, true, true)
	checkPair(t, "Div", num.Div, most-1, api.One-1, 0, 0, false, false)
	checkPair(t, "Div", num.Div, 1073741823, 65537, 1073725439, 1073725440, true, true)
}

// TestPairsAgainstBig: numbers by numbers, against ones that don't end.
func TestPairsAgainstBig(t *testing.T) {
	one := big.NewInt(api.One)
	for _, a := range someNumbers() {
		for _, b := range someNumbers() {
			low, lowOK := rounded(product(a, b), one, false)
			top, topOK := rounded(product(a, b), one, true)
			checkPair(t, "Mul", num.Mul, a, b, low, top, lowOK, topOK)
			if b == 0 {
				checkPair(t, "Div", num.Div, a, b, 0, 0, false, false)
				continue
			}
			low, lowOK = rounded(product(a, api.One), big.NewInt(int64(b)), false)
			top, topOK = rounded(product(a, api.One), big.NewInt(int64(b)), true)
			checkPair(t, "Div", num.Div, a, b, low, top, lowOK, topOK)
		}
	}
}

// TestPairsOfNoNumbers: either argument not In (R1, R3).
func TestPairsOfNoNumbers(t *testing.T) {
	for _, n := range notIn {
		for _, other := range append(someNumbers(), notIn...) {
			checkPair(t, "Mul", num.Mul, n, other, 0, 0, false, false)
			checkPair(t, "Mul", num.Mul, other, n, 0, 0, false, false)
			checkPair(t, "Div", num.Div, n, other, 0, 0, false, false)
			checkPair(t, "Div", num.Div, other, n, 0, 0, false, false)
		}
	}
}

// checkRoot asks for a root rounded down, and up.
func checkRoot(t *testing.T, a, low, top int, ok bool) {
	t.Helper()
	if got, fine := num.Root(a, false); got != low || fine != ok {
		t.Errorf("1.1: Root(%d, false) = %d, %t, not %d, %t", a, got, fine, low, ok)
	}
	if got, fine := num.Root(a, true); got != top || fine != ok {
		t.Errorf("1.1: Root(%d, true) = %d, %t, not %d, %t", a, got, fine, top, ok)
	}
}

func TestRoot(t *testing.T) {
	for _, c := range []struct{ a, low, top int }{
		{0, 0, 0}, {1, 256, 256}, {2, 362, 363}, {3, 443, 444}, {4, 512, 512},
		{api.One, api.One, api.One}, {4 * api.One, 2 * api.One, 2 * api.One},
		{2 * api.One, 92681, 92682}, {api.One - 1, 65535, 65536}, {api.One + 1, 65536, 65537},
		{most, 1 << 23, 1 << 23}, {most - 1, 8388607, 8388608},
	} {
		checkRoot(t, c.a, c.low, c.top, true)
	}
}

func TestRootOfNoNumbers(t *testing.T) {
	for _, a := range append([]int{-1, -2, -api.One, -most + 1, -most}, notIn...) {
		checkRoot(t, a, 0, 0, false)
	}
}

// TestRootAgainstBig: by strides through all numbers, and every square with its neighbours.
func TestRootAgainstBig(t *testing.T) {
	for a := 0; a <= most; a += 99991 {
		checkRootOf(t, a)
	}
	for k := 0; k*k <= most; k++ {
		for a := max(k*k-1, 0); a <= min(k*k+1, most); a++ {
			checkRootOf(t, a)
		}
	}
}

// checkRootOf holds Root of a against a root of numbers that don't end.
func checkRootOf(t *testing.T, a int) {
	t.Helper()
	n := product(a, api.One)
	r := new(big.Int).Sqrt(n)
	low := int(r.Int64())
	top := low
	if r.Mul(r, r).Cmp(n) < 0 {
		top++
	}
	checkRoot(t, a, low, top, true)
}

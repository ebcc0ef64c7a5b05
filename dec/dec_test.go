package dec_test

import (
	"math"
	"math/big"
	"regexp"
	"slices"
	"strconv"
	"strings"
	"testing"

	"meniscus/api"
	"meniscus/dec"
)

// far is the greatest C, each way.
const far = 100000000000

func d(c, scale int) api.Dec {
	return api.Dec{C: c, Scale: scale}
}

func none() api.Iv {
	return api.Iv{No: true}
}

// power is ten to the n.
func power(n int) *big.Int {
	return new(big.Int).Exp(big.NewInt(10), big.NewInt(int64(n)), nil)
}

// number is what d writes, exactly.
func number(d api.Dec) *big.Rat {
	return new(big.Rat).SetFrac(big.NewInt(int64(d.C)), power(d.Scale))
}

// rightCs are Cs within the bounds, of all sizes and both signs, ends of powers of ten and of the numbers of steps among them.
func rightCs() []int {
	cs := []int{0, 7, 12, 15, 25, 99, 101, 110, 1001, 10203, 16383, 16384, 16385, 65535, 65536, 65537, 123456, 1638399, 1638401, 163840001, 16383999999, 16384000001, 12345678901, 99999999999, 99999000000, 90000000009, far}
	for p := 1; p < far; p *= 10 {
		cs = append(cs, p-1, p, p+1, 3*p, 5*p, 9*p, 16384*p%far, 16384*p%far+1)
	}
	for _, c := range cs {
		cs = append(cs, -c)
	}
	slices.Sort(cs)
	return slices.Compact(cs)
}

// rights are right decimals, as the document has them: no C that ends in 0 with a Scale above 0.
func rights() []api.Dec {
	var l []api.Dec
	for _, c := range rightCs() {
		for scale := range 7 {
			if scale == 0 || c%10 != 0 {
				l = append(l, d(c, scale))
			}
		}
	}
	return l
}

// wrongs are decimals that are not right.
func wrongs() []api.Dec {
	var l []api.Dec
	for _, c := range []int{far + 1, -far - 1, far + 7, -far - 7, 2 * far, -2 * far, 1 << 40, -1 << 40, 1 << 62, -1 << 62, math.MaxInt, math.MaxInt - 1, math.MinInt, math.MinInt + 1} {
		for _, scale := range []int{0, 1, 3, 6, 7, -1, math.MaxInt, math.MinInt} {
			l = append(l, d(c, scale))
		}
	}
	for _, scale := range []int{-1, -2, -6, -7, 7, 8, 10, 64, 100, -1 << 32, 1 << 32, 1<<32 + 1, math.MaxInt, math.MaxInt - 1, math.MinInt, math.MinInt + 1} {
		for _, c := range []int{0, 1, -1, 15, 10, far, -far, math.MaxInt, math.MinInt} {
			l = append(l, d(c, scale))
		}
	}
	for scale := 1; scale <= 6; scale++ {
		for _, c := range []int{0, 10, -10, 20, 100, -990, 1230, 65530, 1000000, -1000000, 16384000000, 99999999990, far - 10, far, -far} {
			l = append(l, d(c, scale))
		}
	}
	return l
}

// TestExample: the example of chapter 9.
func TestExample(t *testing.T) {
	if got, ok := dec.Read("1.50"); got != d(15, 1) || !ok {
		t.Errorf("9.1: Read(1.50): %v, %v", got, ok)
	}
}

// TestRightAtTheBounds: C -10^11 to 10^11, Scale 0 to 6, and what lies one beyond.
func TestRightAtTheBounds(t *testing.T) {
	for _, c := range []struct {
		d    api.Dec
		want bool
	}{
		{d(far, 0), true}, {d(-far, 0), true}, {d(far+1, 0), false}, {d(-far-1, 0), false},
		{d(far-1, 0), true}, {d(1-far, 0), true}, {d(far-1, 6), true}, {d(1-far, 6), true}, {d(far+1, 6), false}, {d(-far-1, 6), false},
		{d(1, 0), true}, {d(1, 6), true}, {d(1, -1), false}, {d(1, 7), false},
		{d(-1, 0), true}, {d(-1, 6), true}, {d(-1, -1), false}, {d(-1, 7), false},
		{d(0, 0), true}, {d(0, -1), false}, {d(0, 7), false},
		{d(math.MaxInt, 0), false}, {d(math.MinInt, 0), false}, {d(math.MaxInt, 1), false}, {d(math.MinInt, 1), false},
		{d(1, math.MaxInt), false}, {d(1, math.MinInt), false}, {d(0, math.MaxInt), false}, {d(0, math.MinInt), false},
		{d(math.MaxInt, math.MaxInt), false}, {d(math.MinInt, math.MinInt), false}, {d(math.MaxInt, math.MinInt), false}, {d(math.MinInt, math.MaxInt), false},
	} {
		if got := dec.Right(c.d); got != c.want {
			t.Errorf("9.1: Right(%v) is %v", c.d, got)
		}
	}
}

// TestRightOfMultiplesOfTen: they are right with Scale 0 alone, 0 among them.
func TestRightOfMultiplesOfTen(t *testing.T) {
	for _, c := range []int{0, 10, -10, 20, -70, 100, 1010, -123450, 1000000, 65530, -99999999990, far - 10, far, -far} {
		for scale := range 7 {
			if got := dec.Right(d(c, scale)); got != (scale == 0) {
				t.Errorf("9.1: Right(%d, %d) is %v", c, scale, got)
			}
		}
	}
}

// TestRightOfMany: whatever lies within the bounds is right, and no other.
func TestRightOfMany(t *testing.T) {
	for _, x := range rights() {
		if !dec.Right(x) {
			t.Errorf("9.1: Right(%v) is false", x)
		}
	}
	for _, x := range wrongs() {
		if dec.Right(x) {
			t.Errorf("9.1: Right(%v) is true", x)
		}
	}
}

// TestRead: 1 and 5 digits ahead, 1 and 6 behind, with and without `-`, zeros ahead and behind.
func TestRead(t *testing.T) {
	for _, c := range []struct {
		text string
		want api.Dec
	}{
		{"0", d(0, 0)}, {"1", d(1, 0)}, {"9", d(9, 0)}, {"12", d(12, 0)}, {"12345", d(12345, 0)}, {"99999", d(99999, 0)},
		{"1.5", d(15, 1)}, {"0.1", d(1, 1)}, {"1.234567", d(1234567, 6)}, {"0.000001", d(1, 6)}, {"0.999999", d(999999, 6)},
		{"12345.6", d(123456, 1)}, {"12345.678901", d(12345678901, 6)}, {"99999.999999", d(far-1, 6)},
		{"00007", d(7, 0)}, {"00000", d(0, 0)}, {"01", d(1, 0)}, {"00.5", d(5, 1)}, {"000.10", d(1, 1)}, {"00001.000001", d(1000001, 6)},
		{"1.50", d(15, 1)}, {"1.0", d(1, 0)}, {"10", d(10, 0)}, {"0.0", d(0, 0)}, {"0.000000", d(0, 0)}, {"00000.000000", d(0, 0)},
		{"10.0", d(10, 0)}, {"100", d(100, 0)}, {"90000", d(90000, 0)}, {"90000.000000", d(90000, 0)}, {"10.10", d(101, 1)}, {"100.250000", d(10025, 2)},
		{"1.010", d(101, 2)}, {"1.100000", d(11, 1)}, {"1.000001", d(1000001, 6)}, {"0.000010", d(1, 5)}, {"0.100000", d(1, 1)}, {"20.02", d(2002, 2)},
	} {
		if got, ok := dec.Read(c.text); got != c.want || !ok {
			t.Errorf("9.1: Read(%q): %v, %v", c.text, got, ok)
		}
		got, ok := dec.Read("-" + c.text)
		if below := d(-c.want.C, c.want.Scale); c.want.C != 0 && (got != below || !ok) {
			t.Errorf("9.1: Read(-%s): %v, %v", c.text, got, ok)
		}
		if c.want.C == 0 && (got != api.Dec{} || ok) {
			t.Errorf("9.1: Read(-%s): %v, %v", c.text, got, ok)
		}
	}
}

// TestReadOfOthers: false, and the zero decimal, of each other text.
func TestReadOfOthers(t *testing.T) {
	for _, s := range []string{
		"", "-", ".", "-.", "..", "--", "-.-",
		".5", "-.5", ".0", ".123456", "1.", "-1.", "0.", "12345.", "-0.",
		"123456", "-123456", "000000", "000001", "012345", "100000", "123456.5", "000000.5", "1234567", "99999999999999999999999999",
		"1.1234567", "-1.1234567", "1.0000000", "0.0000000", "1.5000000", "0.0000001", "12345.1234567", "1.00000000000000000000000000",
		"1.2.3", "1..2", "1.2.", ".1.2", "1.2.3.4", "-1.2.3", "1.2345.6",
		"+1", "+", "+1.5", "-+1", "+-1", "1+", "1.+5", "+0",
		" 1", "1 ", " 1 ", "1 2", "1. 5", "1 .5", "- 1", " ", "\t1", "1\t", "1\n", "\n1", "1\r\n", "1.5\n", "\u00a01", "1\u00a0", "1\u2003", "\ufeff1",
		"a", "1a", "a1", "1.a", "1.5a", "0x1", "0x10", "1_0", "0b1", "0o7", "nan", "NaN", "inf", "-inf", "Inf", "one", "l", "O", "1f", "1d", "1i",
		"1e3", "1E3", "1e0", "1.5e1", "1e-3", "1e", "e1", "-1e3", "1p1",
		"--1", "1-", "-1-", "1-2", "1.-5", "1.5-", "---1", "1.5-1",
		"-0", "-00", "-00000", "-0.0", "-0.00", "-0.000000", "-00000.000000", "-000.0",
		"\u0661", "1\u0662", "1.\u0663", "\u0661.\u0662", "\uff11", "\uff11.\uff15", "\u0967", "\u00b2", "1\u00b2", "\u00bd", "\u2460", "\u2167", "\U0001d7ce", "\u22121", "\u20131", "1\u066b5", "1\u00b75",
		"\x00", "1\x00", "\x001", "1.\x005", "\xff", "1\xff", "\xff1", "1.\xff", "-\xff", "\xc3", "1\xc3", "\xed\xa0\x80", "1\x80", "\xb1", "\xe2\x88\x921",
		"1,5", "1'000", "1/2", "1:2", "1/", ":", "/", "(1)", "1%", "$1", "1;", "#1", "\"1\"", "1.5.", "1,000.5",
		strings.Repeat("1", 100000), strings.Repeat("0", 100000), strings.Repeat("-", 100000), strings.Repeat(".", 100000), "1." + strings.Repeat("0", 100000), strings.Repeat("0", 100000) + "1", strings.Repeat(" ", 100000) + "1", "-" + strings.Repeat("9", 100000) + ".5",
	} {
		if got, ok := dec.Read(s); got != (api.Dec{}) || ok {
			t.Errorf("9.1: Read(%q): %v, %v", s[:min(len(s), 20)], got, ok)
		}
	}
}

// form is what the document says of a text.
var form = regexp.MustCompile(`\A-?[0-9]{1,5}(\.[0-9]{1,6})?\z`)

// meant is what s ought to be read as.
func meant(s string) (api.Dec, bool) {
	if !form.MatchString(s) {
		return api.Dec{}, false
	}
	scale := 0
	if k := strings.IndexByte(s, '.'); k >= 0 {
		scale = len(s) - k - 1
	}
	c, err := strconv.Atoi(strings.Replace(s, ".", "", 1))
	if err != nil || c == 0 && s[0] == '-' {
		return api.Dec{}, false
	}
	for scale > 0 && c%10 == 0 {
		c, scale = c/10, scale-1
	}
	return d(c, scale), true
}

// checkRead holds Read of s against what the document says; what is read is right, and is printed and read again the same.
func checkRead(t *testing.T, s string) {
	t.Helper()
	want, fine := meant(s)
	got, ok := dec.Read(s)
	if got != want || ok != fine {
		t.Errorf("9.1: Read(%q): %v, %v, not %v, %v", s, got, ok, want, fine)
	}
	if !ok {
		return
	}
	if !dec.Right(got) {
		t.Errorf("9.1: Read(%q): %v is not right", s, got)
	}
	text := dec.Print(got)
	if back, ok := dec.Read(text); back != got || !ok {
		t.Errorf("W7: Read(%q) is %v, printed %q, read %v", s, got, text, back)
	}
	if len(text) > len(s) {
		t.Errorf("9.1: Print(%v) of %q has needless digits: %q", got, s, text)
	}
}

// TestReadOfAllShortTexts: each text of up to 7 of some bytes.
func TestReadOfAllShortTexts(t *testing.T) {
	var walk func(s string, n int)
	walk = func(s string, n int) {
		checkRead(t, s)
		for k := 0; k < 6 && n > 0; k++ {
			walk(s+"-.017 "[k:k+1], n-1)
		}
	}
	walk("", 7)
}

// TestReadOfAllLengths: each number of digits ahead of the point and behind it, of all sorts.
func TestReadOfAllLengths(t *testing.T) {
	for ahead := range 9 {
		for behind := range 10 {
			for _, a := range []string{"000000000", "100000000", "000001000", "123456789", "999999999", "010101010"} {
				for _, b := range []string{"0000000000", "1000000000", "0100000000", "0000010000", "0000001000", "1234567890", "9999999999", "1010101010"} {
					for _, sign := range []string{"", "-", "+", "--", " "} {
						checkRead(t, sign+a[:ahead])
						checkRead(t, sign+a[:ahead]+"."+b[:behind])
						checkRead(t, sign+a[:ahead]+b[:behind])
					}
				}
			}
		}
	}
}

// TestReadOfAllBytes: each byte, and each rune of some, at each place of a text.
func TestReadOfAllBytes(t *testing.T) {
	for _, s := range []string{"1", "12.5", "-12.5", "0.10", "12345.678901", "-00000.00001"} {
		for k := 0; k <= len(s); k++ {
			for b := range 256 {
				put := string([]byte{byte(b)})
				checkRead(t, s[:k]+put+s[k:])
				checkRead(t, s[:k]+put)
				checkRead(t, put+s[k:])
				if k < len(s) {
					checkRead(t, s[:k]+put+s[k+1:])
				}
			}
			for r := rune(0x80); r < 0x3000; r += 7 {
				checkRead(t, s[:k]+string(r)+s[k:])
			}
		}
	}
}

// TestPrint: back, without needless digits.
func TestPrint(t *testing.T) {
	for _, c := range []struct {
		d    api.Dec
		want string
	}{
		{d(0, 0), "0"}, {d(1, 0), "1"}, {d(-1, 0), "-1"}, {d(10, 0), "10"}, {d(100, 0), "100"}, {d(-90000, 0), "-90000"}, {d(99999, 0), "99999"}, {d(-99999, 0), "-99999"},
		{d(15, 1), "1.5"}, {d(-15, 1), "-1.5"}, {d(5, 1), "0.5"}, {d(-5, 1), "-0.5"}, {d(5, 2), "0.05"}, {d(-5, 3), "-0.005"}, {d(55, 2), "0.55"}, {d(-55, 3), "-0.055"},
		{d(1, 6), "0.000001"}, {d(-1, 6), "-0.000001"}, {d(999999, 6), "0.999999"}, {d(-999999, 6), "-0.999999"}, {d(1000001, 6), "1.000001"}, {d(-1000001, 6), "-1.000001"},
		{d(101, 1), "10.1"}, {d(1001, 2), "10.01"}, {d(1001, 3), "1.001"}, {d(-20003, 4), "-2.0003"}, {d(10000001, 3), "10000.001"}, {d(1000000001, 5), "10000.00001"},
		{d(12345678901, 6), "12345.678901"}, {d(-12345678901, 6), "-12345.678901"}, {d(far-1, 6), "99999.999999"}, {d(1-far, 6), "-99999.999999"}, {d(999999, 1), "99999.9"}, {d(-9999999, 2), "-99999.99"},
	} {
		if got := dec.Print(c.d); got != c.want {
			t.Errorf("9.1: Print(%v) is %q, not %q", c.d, got, c.want)
		}
		if back, ok := dec.Read(c.want); back != c.d || !ok {
			t.Errorf("W7: Read(%q): %v, %v", c.want, back, ok)
		}
	}
}

// TestPrintOfNone: no text of what is not right, nor of what has more than 5 digits ahead of its point.
func TestPrintOfNone(t *testing.T) {
	for _, x := range wrongs() {
		if got := dec.Print(x); got != "" {
			t.Errorf("9.1: Print(%v), not right, is %q", x, got)
		}
	}
	for _, x := range []api.Dec{d(100000, 0), d(-100000, 0), d(100001, 0), d(1000001, 1), d(-1000001, 1), d(10000001, 2), d(100000001, 3), d(1000000001, 4), d(10000000001, 5), d(-10000000001, 5), d(far-1, 5), d(1-far, 5), d(far-1, 0), d(1-far, 4), d(far, 0), d(-far, 0), d(123456, 0), d(1234567, 1)} {
		if !dec.Right(x) {
			t.Errorf("9.1: Right(%v) is false", x)
		}
		if got := dec.Print(x); got != "" {
			t.Errorf("9.1: Print(%v) is %q", x, got)
		}
	}
}

// TestPrintOfMany: the shortest text that is read again the same, wherever there is one.
func TestPrintOfMany(t *testing.T) {
	limit := new(big.Rat).SetInt64(100000)
	for _, x := range rights() {
		text := dec.Print(x)
		if small := new(big.Rat).Abs(number(x)).Cmp(limit) < 0; small != (text != "") {
			t.Errorf("9.1: Print(%v) is %q", x, text)
		}
		if text == "" {
			continue
		}
		if want := number(x).FloatString(x.Scale); text != want {
			t.Errorf("9.1: Print(%v) is %q, not %q", x, text, want)
		}
		if back, ok := dec.Read(text); back != x || !ok {
			t.Errorf("W7: Read(Print(%v)), of %q: %v, %v", x, text, back, ok)
		}
	}
}

// TestOneNumber: two texts of one number are one decimal.
func TestOneNumber(t *testing.T) {
	for _, l := range [][]string{
		{"1.5", "1.50", "1.500000", "01.5", "00001.5", "00001.500000"},
		{"1", "1.0", "1.000000", "00001", "01.00"},
		{"10", "10.0", "010", "00010.000000"},
		{"0", "0.0", "0.000000", "00000", "00000.000000", "00.00"},
		{"-0.05", "-0.050", "-0.050000", "-00.05", "-00000.050000"},
		{"-70", "-70.0", "-00070", "-070.00"},
	} {
		first, _ := dec.Read(l[0])
		for _, s := range l {
			got, ok := dec.Read(s)
			if got != first || !ok {
				t.Errorf("W7: Read(%q): %v, %v, not %v as %q", s, got, ok, first, l[0])
			}
			if text := dec.Print(got); text != l[0] {
				t.Errorf("W7: Print of Read(%q) is %q, not %q", s, text, l[0])
			}
		}
	}
}

// TestOf: floored to rounded up, above and below 0; one step where it is a whole number of them.
func TestOf(t *testing.T) {
	for _, c := range []struct {
		d      api.Dec
		lo, hi int
	}{
		{d(0, 0), 0, 0}, {d(1, 0), api.One, api.One}, {d(-1, 0), -api.One, -api.One}, {d(10, 0), 10 * api.One, 10 * api.One},
		{d(15, 1), 98304, 98304}, {d(-15, 1), -98304, -98304}, {d(5, 1), 32768, 32768}, {d(-25, 2), -16384, -16384}, {d(125, 3), 8192, 8192}, {d(15625, 6), 1024, 1024}, {d(-15625, 6), -1024, -1024},
		{d(1, 1), 6553, 6554}, {d(-1, 1), -6554, -6553}, {d(1, 6), 0, 1}, {d(-1, 6), -1, 0}, {d(15, 6), 0, 1}, {d(16, 6), 1, 2}, {d(-16, 6), -2, -1}, {d(999999, 6), 65535, 65536}, {d(-999999, 6), -65536, -65535},
		{d(5876, 4), 38508, 38509}, {d(3, 1), 19660, 19661}, {d(-3, 1), -19661, -19660},
		{d(16384, 0), api.Most, api.Most}, {d(-16384, 0), -api.Most, -api.Most},
		{d(16383, 0), api.Most - api.One, api.Most - api.One}, {d(16383999999, 6), api.Most - 1, api.Most}, {d(-16383999999, 6), -api.Most, 1 - api.Most},
	} {
		if got := dec.Of(c.d); got != (api.Iv{Lo: c.lo, Hi: c.hi}) {
			t.Errorf("9.1: Of(%v): %v, not %d to %d", c.d, got, c.lo, c.hi)
		}
	}
}

// TestOfNone: None of what is not right, and where an end is no number.
func TestOfNone(t *testing.T) {
	for _, x := range []api.Dec{d(16385, 0), d(-16385, 0), d(16384000001, 6), d(-16384000001, 6), d(163840001, 4), d(-163840001, 4), d(1638401, 2), d(99999, 0), d(-99999, 0), d(far-1, 6), d(1-far, 6), d(far, 0), d(-far, 0), d(65536, 0), d(1<<32, 0), d(1<<36, 0), d(-1<<36, 0)} {
		if got := dec.Of(x); got != none() {
			t.Errorf("9.1: Of(%v): %v", x, got)
		}
	}
	for _, x := range wrongs() {
		if got := dec.Of(x); got != none() {
			t.Errorf("9.1: Of(%v), not right: %v", x, got)
		}
	}
}

// ends are what d * One lies between, in numbers that don't end.
func ends(x api.Dec) (*big.Int, *big.Int) {
	steps := new(big.Int).Mul(big.NewInt(int64(x.C)), big.NewInt(api.One))
	lo, rest := new(big.Int).DivMod(steps, power(x.Scale), new(big.Int))
	hi := new(big.Int).Set(lo)
	if rest.Sign() != 0 {
		hi.Add(hi, big.NewInt(1))
	}
	return lo, hi
}

// TestOfMany: of each right one, its number of steps lies in its interval, which is the least that has it.
func TestOfMany(t *testing.T) {
	most := big.NewInt(api.Most)
	for _, x := range rights() {
		want := none()
		if lo, hi := ends(x); lo.CmpAbs(most) <= 0 && hi.CmpAbs(most) <= 0 {
			want = api.Iv{Lo: int(lo.Int64()), Hi: int(hi.Int64())}
		}
		if got := dec.Of(x); got != want {
			t.Errorf("9.1: Of(%v): %v, not %v", x, got, want)
		}
	}
}

// TestLess: by their numbers, of different Scales and signs.
func TestLess(t *testing.T) {
	for _, c := range []struct {
		a, b api.Dec
		want bool
	}{
		{d(0, 0), d(1, 0), true}, {d(1, 0), d(0, 0), false}, {d(-1, 0), d(0, 0), true}, {d(0, 0), d(-1, 0), false}, {d(-1, 0), d(1, 0), true}, {d(1, 0), d(-1, 0), false}, {d(-2, 0), d(-1, 0), true}, {d(-1, 0), d(-2, 0), false},
		{d(0, 0), d(0, 0), false}, {d(15, 1), d(15, 1), false}, {d(-15, 1), d(-15, 1), false}, {d(far, 0), d(far, 0), false}, {d(1, 6), d(1, 6), false},
		{d(15, 1), d(2, 0), true}, {d(2, 0), d(15, 1), false}, {d(99, 2), d(1, 0), true}, {d(1, 0), d(99, 2), false}, {d(101, 2), d(1, 0), false}, {d(1, 0), d(101, 2), true}, {d(1, 1), d(1, 0), true}, {d(1, 0), d(1, 1), false}, {d(1, 6), d(1, 5), true}, {d(-1, 6), d(-1, 5), false}, {d(-1, 5), d(-1, 6), true}, {d(-15, 1), d(-1, 0), true}, {d(-1, 0), d(-15, 1), false}, {d(-1, 1), d(1, 6), true}, {d(1, 6), d(-1, 1), false},
		{d(999999, 6), d(1, 0), true}, {d(1000001, 6), d(1, 0), false}, {d(1, 0), d(1000001, 6), true}, {d(-1000001, 6), d(-1, 0), true}, {d(-1, 0), d(-999999, 6), true},
		{d(0, 0), d(1, 6), true}, {d(-1, 6), d(0, 0), true}, {d(1, 6), d(0, 0), false}, {d(0, 0), d(-1, 6), false},
		{d(-far, 0), d(far, 0), true}, {d(far, 0), d(-far, 0), false}, {d(far-1, 6), d(100000, 0), true}, {d(100000, 0), d(far-1, 6), false}, {d(far-1, 6), d(far, 0), true}, {d(far, 0), d(far-1, 6), false}, {d(-far, 0), d(1-far, 6), true}, {d(far-1, 5), d(far-1, 6), false}, {d(far-1, 6), d(far-1, 5), true},
		{d(3, 6), d(4, 6), true}, {d(16384, 0), d(16385, 0), true}, {d(123456789, 6), d(123456788, 6), false}, {d(123456788, 6), d(123456789, 6), true},
	} {
		if got := dec.Less(c.a, c.b); got != c.want {
			t.Errorf("9.1: Less(%v, %v) is %v", c.a, c.b, got)
		}
	}
}

// TestLessOfOthers: false where either is not right, whatever its number would be.
func TestLessOfOthers(t *testing.T) {
	for _, x := range wrongs() {
		for _, y := range []api.Dec{d(0, 0), d(1, 0), d(-1, 0), d(15, 1), d(far, 0), d(-far, 0), d(1, 6), d(-1, 6)} {
			if dec.Less(x, y) {
				t.Errorf("9.1: Less(%v, not right, %v) is true", x, y)
			}
			if dec.Less(y, x) {
				t.Errorf("9.1: Less(%v, %v, not right) is true", y, x)
			}
		}
		for _, y := range wrongs() {
			if dec.Less(x, y) {
				t.Errorf("9.1: Less(%v, %v), neither right, is true", x, y)
			}
		}
	}
}

// TestLessOfMany: each two against their numbers, that have no end.
func TestLessOfMany(t *testing.T) {
	l := rights()
	numbers := make([]*big.Rat, len(l))
	for k, x := range l {
		numbers[k] = number(x)
	}
	for k, x := range l {
		for j, y := range l {
			if (k*7+j)%5 != 0 && k != j {
				continue
			}
			if got, want := dec.Less(x, y), numbers[k].Cmp(numbers[j]) < 0; got != want {
				t.Errorf("9.1: Less(%v, %v) is %v", x, y, got)
			}
		}
	}
}

// TestLessAsOf: what Less says of two, their intervals don't gainsay.
func TestLessAsOf(t *testing.T) {
	l := rights()
	for k, x := range l {
		y := l[(k*31+17)%len(l)]
		a, b := dec.Of(x), dec.Of(y)
		if a.No || b.No {
			continue
		}
		if dec.Less(x, y) && a.Lo > b.Hi || !dec.Less(x, y) && a.Hi < b.Lo {
			t.Errorf("9.1: Less(%v, %v) is %v, of %v and %v", x, y, dec.Less(x, y), a, b)
		}
	}
}

// TestSameAgain: what a call answers hangs on its arguments alone.
func TestSameAgain(t *testing.T) {
	for _, x := range append(rights(), wrongs()...) {
		text := dec.Print(x)
		got, ok := dec.Read(text)
		of := dec.Of(x)
		if again, fine := dec.Read(text); dec.Print(x) != text || again != got || fine != ok || dec.Of(x) != of {
			t.Errorf("R4: %v is told otherwise the second time", x)
		}
	}
}

// FuzzRead: nothing panics, and each text is read as the document says.
func FuzzRead(f *testing.F) {
	for _, s := range []string{"", "-", "1.50", "-0.0", "99999.999999", "1.2.3", "\u0661", "\xff"} {
		f.Add(s)
	}
	f.Fuzz(func(t *testing.T, s string) {
		checkRead(t, s)
	})
}

// FuzzDecimals: nothing panics, whatever the fields are.
func FuzzDecimals(f *testing.F) {
	f.Add(15, 1, -1, 6)
	f.Add(math.MinInt, math.MaxInt, math.MaxInt, math.MinInt)
	f.Fuzz(func(t *testing.T, c, scale, e, other int) {
		x, y := d(c, scale), d(e, other)
		if text := dec.Print(x); text != "" {
			if back, ok := dec.Read(text); back != x || !ok {
				t.Errorf("W7: Read(Print(%v)): %v, %v", x, back, ok)
			}
		}
		if !dec.Right(x) && (dec.Of(x) != none() || dec.Print(x) != "" || dec.Less(x, y) || dec.Less(y, x)) {
			t.Errorf("9.1: %v is not right, and something is told of it", x)
		}
		if dec.Less(x, y) && dec.Less(y, x) {
			t.Errorf("9.1: %v and %v are below each other", x, y)
		}
	})
}

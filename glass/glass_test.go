package glass_test

import (
	"math"
	"math/big"
	"regexp"
	"slices"
	"strconv"
	"strings"
	"testing"
	"unsafe"

	"meniscus/api"
	"meniscus/dec"
	"meniscus/glass"
	"meniscus/iv"
	"meniscus/lex"
)

func d(c, scale int) api.Dec {
	return api.Dec{C: c, Scale: scale}
}

func at(line, column int) complex128 {
	return complex(float64(line), float64(column))
}

func none() api.Iv {
	return api.Iv{No: true}
}

func from(lo, hi int) api.Iv {
	return api.Iv{Lo: lo, Hi: hi}
}

// of is a glass of that name and those numbers, B C B C B C.
func of(name string, n ...api.Dec) api.Glass {
	return api.Glass{Name: name, B: [3]api.Dec{n[0], n[2], n[4]}, C: [3]api.Dec{n[1], n[3], n[5]}}
}

// plain is the glass of the line `glass NAME 1 2 3 4 5 6`.
func plain(name string) api.Glass {
	return of(name, d(1, 0), d(2, 0), d(3, 0), d(4, 0), d(5, 0), d(6, 0))
}

// Glasses that there are, the example's, and some of one, two, three sums.
var (
	bk    = of("BK7", d(1039612, 6), d(6001, 6), d(231792, 6), d(20018, 6), d(101047, 5), d(10356065, 5))
	sf    = of("SF10", d(172448, 5), d(13487, 6), d(390105, 6), d(56932, 6), d(1045728, 6), d(118557185, 6))
	k     = of("k", d(1, 0), d(1, 2), d(0, 0), d(1, 0), d(0, 0), d(1, 0))
	one   = of("one", d(5, 1), d(0, 0), d(0, 0), d(0, 0), d(0, 0), d(0, 0))
	two   = of("two", d(5, 1), d(-1, 1), d(25, 2), d(2, 2), d(0, 0), d(0, 0))
	three = of("three", d(5, 1), d(-1, 1), d(25, 2), d(2, 2), d(-125, 3), d(9, 0))
	third = of("third", d(0, 0), d(0, 0), d(0, 0), d(0, 0), d(7, 1), d(3, 2))
	zero  = of("zero", d(0, 0), d(0, 0), d(0, 0), d(0, 0), d(0, 0), d(0, 0))
)

const bkLine = "glass BK7 1.039612 0.006001 0.231792 0.020018 1.01047 103.56065\n"

func glasses() []api.Glass {
	return []api.Glass{bk, sf, k, one, two, three, third, zero}
}

// many are n lines, and the glasses they tell: ga, gb, .., and so on with x behind.
func many(n int) (string, []api.Glass) {
	text := ""
	var l []api.Glass
	for k := range n {
		name := "g" + string(rune('a'+k%26)) + strings.Repeat("x", k/26)
		text += "glass " + name + " 1 2 3 4 5 6\n"
		l = append(l, plain(name))
	}
	return text, l
}

// short is the beginning of s, to be told of.
func short(s string) string {
	return s[:min(len(s), 80)]
}

// tells holds the glasses of s against want; their error is OK, and its place 0.
func tells(t *testing.T, promise, s string, want ...api.Glass) {
	t.Helper()
	got, place, e := glass.Read(s)
	if e != api.OK || place != 0 || !slices.Equal(got, want) {
		t.Errorf("%s: Read(%q): %v, %v, %d, not %v", promise, short(s), got, place, e, want)
	}
}

// refuses holds the error of s, and its place, against e and place; there is no glass beside it.
func refuses(t *testing.T, promise, s string, place complex128, e api.Errno) {
	t.Helper()
	if got, p, n := glass.Read(s); len(got) != 0 || p != place || n != e {
		t.Errorf("%s: Read(%q): %v, %v, %d, not %d at %v", promise, short(s), got, p, n, e, place)
	}
}

// TestExample: the example of chapter 11.
func TestExample(t *testing.T) {
	got, place, e := glass.Read("glass k 1 0.01 0 1 0 1")
	if len(got) != 1 || place != 0 || e != api.OK {
		t.Errorf("11.1: %v, %v, %d", got, place, e)
	}
	tells(t, "11.1", "glass k 1 0.01 0 1 0 1", k)
}

// TestNothing: no text at all, and texts without a token, have no glass and no error.
func TestNothing(t *testing.T) {
	for _, s := range []string{"", "\n", "\n\n \n", " ", "\t", "#", "# glass", "# glass k 1 0.01 0 1 0 1", " \t# $\n#\n\n", strings.Repeat(" ", api.MaxText), strings.Repeat("\n", api.MaxText)} {
		tells(t, "11.1", s)
	}
}

// TestLines: each line tells a glass, in their order; B and C take turns.
func TestLines(t *testing.T) {
	tells(t, "11.1", bkLine, bk)
	tells(t, "11.1", "glass a 1 2 3 4 5 6", plain("a"))
	got, _, _ := glass.Read("glass a 1 2 3 4 5 6")
	if want := (api.Glass{Name: "a", B: [3]api.Dec{d(1, 0), d(3, 0), d(5, 0)}, C: [3]api.Dec{d(2, 0), d(4, 0), d(6, 0)}}); len(got) != 1 || got[0] != want {
		t.Errorf("11.1: B C B C B C: %v", got)
	}
	tells(t, "11.1", "glass b 1 2 3 4 5 6\nglass a 1 2 3 4 5 6\nglass c 6 5 4 3 2 1\n", plain("b"), plain("a"), of("c", d(6, 0), d(5, 0), d(4, 0), d(3, 0), d(2, 0), d(1, 0)))
	tells(t, "11.1", bkLine+"glass k 1 0.010 0 1 0 1", bk, k)
	tells(t, "11.1", "glass n 1.50 -0.25 99999.999999 -99999.999999 0.000001 00.0", of("n", d(15, 1), d(-25, 2), d(99999999999, 6), d(-99999999999, 6), d(1, 6), d(0, 0)))
}

// TestBlankLines: empty lines, blanks, tabs and remarks change nothing.
func TestBlankLines(t *testing.T) {
	for _, s := range []string{
		"glass a 1 2 3 4 5 6\nglass b 1 2 3 4 5 6", "glass a 1 2 3 4 5 6\nglass b 1 2 3 4 5 6\n", "\n\nglass a 1 2 3 4 5 6\n\n\nglass b 1 2 3 4 5 6\n\n", "# glasses\n\t glass\ta  1\t\t2 3 4 5 6  # a\n  # glass c\n glass b 1 2 3 4 5 6#7\n#", " glass a 1 2 3 4 5 6 \n \t\nglass b 1 2 3 4 5 6\t# $é\n# \xff",
	} {
		tells(t, "11.1", s, plain("a"), plain("b"))
	}
	refuses(t, "11.1", "glass a 1 2 3\n4 5 6", at(1, 14), api.ErrForm)
	refuses(t, "11.1", "glass a 1 2 3 # 4 5 6", at(1, 22), api.ErrForm)
	refuses(t, "11.1", "glass a 1 2 3 4 5 6 glass b 1 2 3 4 5 6", at(1, 21), api.ErrForm)
}

// TestNames: each Word is one, of up to MaxWord bytes, but `air`.
func TestNames(t *testing.T) {
	for _, name := range []string{"a", "Z", "glass", "Glass", "lens", "face", "stop", "conic", "Air", "AIR", "aiR", "airs", "ai", "air-", "air_", "air0", "a-_9", "BK7", "N-SF11", "abcdefghij-_01234567", strings.Repeat("a", 20), "z" + strings.Repeat("9", 19)} {
		tells(t, "11.1", "glass "+name+" 1 2 3 4 5 6\n", plain(name))
		if !glass.Right([]api.Glass{plain(name)}) {
			t.Errorf("11.1: Right of %q is false", name)
		}
	}
	refuses(t, "11.1", "glass "+strings.Repeat("a", 21)+" 1 2 3 4 5 6", at(1, 7), api.ErrBig)
}

// TestLexErrors: lex's error, with its place, whatever the lines ahead of it, and its own, would have.
func TestLexErrors(t *testing.T) {
	long := strings.Repeat("w", 21)
	thirty, _ := many(30)
	for _, ahead := range []string{"", bkLine, "lens a\n", "glass air\n", "glass\n", "glass a 1 2\n", bkLine + bkLine, thirty + "glass more 1 2 3 4 5 6\n", "\n\n# $\n"} {
		below := strings.Count(ahead, "\n")
		for _, c := range []struct {
			line   string
			column int
			e      api.Errno
		}{
			{"$", 1, api.ErrForm}, {"glass a $", 9, api.ErrForm}, {"glass 7 $", 9, api.ErrForm}, {"lens a 1.2.3", 8, api.ErrForm}, {"glass a 1 2 3 4 5 6 7 -0", 23, api.ErrForm}, {"glass a 1 2 3 4 5 123456", 19, api.ErrForm}, {"glass a 1 .5", 11, api.ErrForm}, {"glass air é", 11, api.ErrForm}, {"glass _a 1 2 3 4 5 6", 7, api.ErrForm},
			{"glass " + long, 7, api.ErrBig}, {"glass " + long + " $", 7, api.ErrBig}, {long, 1, api.ErrBig}, {"7 8 " + long, 5, api.ErrBig}, {"glass a 1 2 3 4 5 " + long, 19, api.ErrBig}, {"glass a 1 2 3 4 5 6\r", 20, api.ErrForm}, {"glass a 1 2 3 4 5 -", 19, api.ErrForm},
		} {
			for _, behind := range []string{"", "\n", "\nglass air", "\n$", "\n" + long} {
				refuses(t, "11.1", ahead+c.line+behind, at(below+1, c.column), c.e)
			}
		}
	}
	for _, s := range []string{strings.Repeat(" ", api.MaxText+1), strings.Repeat("$", api.MaxText+1), "glass air\n" + strings.Repeat("#", api.MaxText), "$" + strings.Repeat("\n", api.MaxText), bkLine + strings.Repeat("a", api.MaxText)} {
		refuses(t, "11.1", s, 0, api.ErrBig)
	}
	tells(t, "11.1", bkLine+strings.Repeat("#", api.MaxText-len(bkLine)), bk)
}

// TestForm: ErrForm, at the first token of a line that is another one, each of them in turn.
func TestForm(t *testing.T) {
	for _, ahead := range []string{"", "\n", bkLine, bkLine + "\n# a\nglass k 1 0.01 0 1 0 1\n"} {
		below := strings.Count(ahead, "\n")
		for _, c := range []struct {
			line   string
			column int
		}{
			{"lens a 1 2 3 4 5 6", 1}, {"Glass a 1 2 3 4 5 6", 1}, {"glas a 1 2 3 4 5 6", 1}, {"glasses a 1 2 3 4 5 6", 1}, {"a 1 2 3 4 5 6", 1}, {"air", 1}, {"  7 a 1 2 3 4 5 6", 3}, {"1 2 3 4 5 6", 1}, {"a", 1}, {"7", 1},
			{"glass", 6}, {" glass ", 8}, {"glass # a", 10}, {"glass 7", 7}, {"glass 7 a 1 2 3 4 5 6", 7}, {"glass 1 2 3 4 5 6", 7}, {"glass -1.5", 7},
			{"glass a", 8}, {"glass a ", 9}, {"glass a b", 9}, {"glass a b 1 2 3 4 5 6", 9}, {"glass a x 2 3 4 5 6", 9}, {"glass glass glass", 13},
			{"glass a 1", 10}, {"glass a 1 b", 11}, {"glass a 1 x 3 4 5 6", 11},
			{"glass a 1 2", 12}, {"glass a 1 2 b", 13}, {"glass a 1 2 x 4 5 6", 13},
			{"glass a 1 2 3", 14}, {"glass a 1 2 3 b", 15}, {"glass a 1 2 3 x 5 6", 15},
			{"glass a 1 2 3 4", 16}, {"glass a 1 2 3 4 b", 17}, {"glass a 1 2 3 4 x 6", 17},
			{"glass a 1 2 3 4 5", 18}, {"glass a 1 2 3 4 5 b", 19}, {"glass a 1 2 3 4 5 6b", 20}, {"glass a 1 2 3 4 5b", 18},
			{"glass a 1 2 3 4 5 6 7", 21}, {"glass a 1 2 3 4 5 6 b", 21}, {"glass a 1 2 3 4 5 6-7", 20}, {"glass a 1 2 3 4 5 6 glass", 21}, {"glass a 1 2 3 4 5 6 7 8 9 b", 21},
			{"lens 7", 1}, {"glass 7 8", 7}, {"glass a b c", 9},
		} {
			for _, behind := range []string{"", "\n", "\n\nglass b 1 2 3 4 5 6\n", "\nlens\n", "\nglass BK7", "\nglass air"} {
				refuses(t, "11.1", ahead+c.line+behind, at(below+1, c.column), api.ErrForm)
			}
		}
	}
}

// TestTwice: ErrTwice, at the name, of `air`, and of one that was there.
func TestTwice(t *testing.T) {
	refuses(t, "11.1", "glass air 1 2 3 4 5 6", at(1, 7), api.ErrTwice)
	refuses(t, "11.1", bkLine+"\n  glass\tair 1 2 3 4 5 6\n", at(3, 9), api.ErrTwice)
	refuses(t, "11.1", "glass a 1 2 3 4 5 6\nglass a 1 2 3 4 5 6", at(2, 7), api.ErrTwice)
	refuses(t, "11.1", "glass a 1 2 3 4 5 6\n\n\n # a\n   glass   a 6 5 4 3 2 1\n", at(5, 12), api.ErrTwice)
	for n := 1; n <= 30; n++ {
		text, l := many(n)
		for _, k := range []int{0, n / 2, n - 1} {
			refuses(t, "11.1", text+"glass "+l[k].Name+" 1 2 3 4 5 6", at(n+1, 7), api.ErrTwice)
		}
	}
	tells(t, "11.1", "glass a 1 2 3 4 5 6\nglass A 1 2 3 4 5 6\nglass aa 1 2 3 4 5 6\nglass a- 1 2 3 4 5 6\nglass Air 1 2 3 4 5 6\nglass AIR 1 2 3 4 5 6\n", plain("a"), plain("A"), plain("aa"), plain("a-"), plain("Air"), plain("AIR"))
	tells(t, "11.1", "glass glass 1 2 3 4 5 6\nglass lens 1 2 3 4 5 6\n", plain("glass"), plain("lens"))
}

// TestBig: MaxGlass are told; ErrBig, at the name, of the one past them.
func TestBig(t *testing.T) {
	for n := range api.MaxGlass + 1 {
		text, l := many(n)
		tells(t, "11.1", text, l...)
	}
	thirty, l := many(30)
	tells(t, "11.1", "\n"+thirty+"\n# more\n", l...)
	refuses(t, "11.1", thirty+"glass more 1 2 3 4 5 6", at(31, 7), api.ErrBig)
	refuses(t, "11.1", thirty+"\n#\n \tglass  more 1 2 3 4 5 6\n", at(33, 10), api.ErrBig)
	for n := 31; n < 60; n++ {
		text, _ := many(n)
		refuses(t, "11.1", text, at(31, 7), api.ErrBig)
	}
}

// TestFirstError: token by token, line by line, the first is told: at the name that it is `air` or was there, then that there are too many.
func TestFirstError(t *testing.T) {
	thirty, _ := many(30)
	for _, c := range []struct {
		s     string
		place complex128
		e     api.Errno
	}{
		{"glass air", at(1, 7), api.ErrTwice}, {"glass air 1", at(1, 7), api.ErrTwice}, {"glass air x", at(1, 7), api.ErrTwice}, {"glass air 1 2 3 4 5 6 7", at(1, 7), api.ErrTwice},
		{bkLine + "glass BK7", at(2, 7), api.ErrTwice}, {bkLine + "glass BK7 x", at(2, 7), api.ErrTwice}, {bkLine + "glass BK7 1 2 3 4 5 6 7", at(2, 7), api.ErrTwice}, {bkLine + "lens BK7", at(2, 1), api.ErrForm}, {bkLine + "lens air", at(2, 1), api.ErrForm}, {"air air", at(1, 1), api.ErrForm}, {"glass 7 air", at(1, 7), api.ErrForm},
		{thirty + "glass more", at(31, 7), api.ErrBig}, {thirty + "glass more x", at(31, 7), api.ErrBig}, {thirty + "glass more 1 2 3 4 5 6 7", at(31, 7), api.ErrBig}, {thirty + "glass ga", at(31, 7), api.ErrTwice}, {thirty + "glass gdx 1 2 3 4 5 6", at(31, 7), api.ErrTwice}, {thirty + "glass air", at(31, 7), api.ErrTwice}, {thirty + "glass", at(31, 6), api.ErrForm}, {thirty + "glass 7", at(31, 7), api.ErrForm}, {thirty + "lens more", at(31, 1), api.ErrForm}, {thirty + "7", at(31, 1), api.ErrForm},
		{"glass a 1 2 3 4 5\nglass air", at(1, 18), api.ErrForm}, {"glass air\nlens", at(1, 7), api.ErrTwice}, {"glass a\nglass a", at(1, 8), api.ErrForm}, {"glass a 1 2 3 4 5 6\nglass a\nlens", at(2, 7), api.ErrTwice}, {bkLine + "lens\nglass BK7", at(2, 1), api.ErrForm},
		{thirty + "glass more 1 2 3 4 5 6\nlens", at(31, 7), api.ErrBig}, {thirty + "lens\nglass more 1 2 3 4 5 6", at(31, 1), api.ErrForm}, {"glass gc 1 2 3 4 5\n" + thirty + "glass more 1 2 3 4 5 6", at(1, 19), api.ErrForm}, {"glass gc 1 2 3 4 5 6\n" + thirty, at(4, 7), api.ErrTwice},
	} {
		refuses(t, "11.1", c.s, c.place, c.e)
		refuses(t, "11.1", "# a\n\n"+c.s+"\n", c.place+2, c.e)
	}
}

var (
	tokens = regexp.MustCompile(`[A-Za-z][-A-Za-z0-9_]*|-?[0-9][0-9.]*`)
	first  = regexp.MustCompile(`\Aglass\z`)
	second = regexp.MustCompile(`\A[A-Za-z]`)
	amount = regexp.MustCompile(`\A[-0-9]`)
	ended  = regexp.MustCompile(`\A\z`)
)

// meant is what the document says of s, line by line.
func meant(s string) ([]api.Glass, complex128, api.Errno) {
	if _, place, e := lex.Tokens(s); e != api.OK {
		return nil, place, e
	}
	var l []api.Glass
	for n, line := range strings.Split(s, "\n") {
		body, _, _ := strings.Cut(line, "#")
		if tokens.FindString(body) == "" {
			continue
		}
		g, column, e := meantLine(line, body, l)
		if e != api.OK {
			return nil, at(n+1, column), e
		}
		l = append(l, g)
	}
	return l, 0, api.OK
}

// meantLine is what it says of one line, body being what stands ahead of its remark; the column of the error, if there is one.
func meantLine(line, body string, ahead []api.Glass) (api.Glass, int, api.Errno) {
	var numbers []api.Dec
	name := ""
	places := append(tokens.FindAllStringIndex(body, -1), []int{len(line), len(line)})
	for k, form := range []*regexp.Regexp{first, second, amount, amount, amount, amount, amount, amount, ended} {
		text := line[places[k][0]:places[k][1]]
		if !form.MatchString(text) {
			return api.Glass{}, places[k][0] + 1, api.ErrForm
		}
		if form == second {
			name = text
			if text == "air" || slices.ContainsFunc(ahead, func(g api.Glass) bool { return g.Name == name }) {
				return api.Glass{}, places[k][0] + 1, api.ErrTwice
			}
			if len(ahead) >= 30 {
				return api.Glass{}, places[k][0] + 1, api.ErrBig
			}
		}
		if form == amount {
			x, _ := dec.Read(text)
			numbers = append(numbers, x)
		}
	}
	return of(name, numbers...), 0, api.OK
}

// check holds Read of s against what the document says, and what is told against Right and Print.
func check(t *testing.T, s string) {
	t.Helper()
	want, place, e := meant(s)
	got, p, n := glass.Read(s)
	if !slices.Equal(got, want) || p != place || n != e {
		t.Errorf("11.1: Read(%q): %v, %v, %d, not %v, %v, %d", short(s), got, p, n, want, place, e)
	}
	if !glass.Right(got) {
		t.Errorf("11.1: Read(%q) tells %v, and it is not right", short(s), got)
	}
	if again, _, m := glass.Read(glass.Print(got)); m != api.OK || !slices.Equal(again, got) {
		t.Errorf("W7: Read(%q) tells %v, and of what is printed %v, %d", short(s), got, again, m)
	}
}

// TestAllShortTexts: each text of up to 6 of some tokens, alone and behind a line.
func TestAllShortTexts(t *testing.T) {
	var walk func(s string, n int)
	walk = func(s string, n int) {
		check(t, s)
		for k := 0; k < 6 && n > 0; k++ {
			walk(s+[]string{"glass ", "a ", "air ", "1 ", "\n", "#"}[k], n-1)
		}
	}
	walk("", 6)
	walk("glass a 1 2 3 4 5 6\n", 4)
	walk("glass a 1 2 3 4 ", 5)
	walk("glass b 1 2 3 4 5 6\nglass a 6 5 4 3 ", 4)
}

// TestAllTurned: lines one of whose tokens is another one, goes, or stands twice.
func TestAllTurned(t *testing.T) {
	line := []string{"glass", "b", "1", "-2.5", "3", "0.04", "5", "6.0"}
	for _, ahead := range []string{"", "glass a 1 2 3 4 5 6\n", "glass a 1 2 3 4 5 6\n\nglass b 1 2 3 4 5 6\n"} {
		for _, behind := range []string{"", "\n", "\nglass a 1 2 3 4 5 6\n", "\nglass c 7 7 7 7 7 7", "\nlens"} {
			for k := range line {
				for _, put := range []string{"", "glass", "a", "b", "air", "7", "-7.5", "b b", "7 7", "$", "#", "\n", "-0"} {
					turned := slices.Clone(line)
					turned[k] = put
					check(t, ahead+strings.Join(turned, " ")+behind)
					check(t, ahead+strings.Join(slices.Insert(slices.Clone(line), k, put), " ")+behind)
				}
			}
			check(t, ahead+strings.Join(line, " ")+behind)
		}
	}
}

// numbers are right decimals that a text tells, and ones that none tells: too great, not right.
func numbers() (told, other []api.Dec) {
	for _, c := range []int{0, 1, 9, 15, 101, 65537, 99999, 1234567, 12345678901, 99999999999} {
		for scale := range 7 {
			if x := c; scale == 0 && c <= 99999 || scale > 0 && x%10 != 0 && c < int(math.Pow10(scale+5)) {
				told = append(told, d(c, scale), d(-c, scale))
			}
		}
	}
	for _, c := range []int{100000, 123456, 99999999999, 100000000000, 100000000001, math.MaxInt, math.MinInt, math.MinInt + 1} {
		other = append(other, d(c, 0))
		if c > 0 {
			other = append(other, d(-c, 0))
		}
	}
	other = append(other, d(1000001, 1), d(-1000001, 1), d(99999999999, 5), d(10000000001, 5), d(100000000000, 6), d(1, -1), d(1, 7), d(0, 1), d(0, 6), d(0, -1), d(0, 7), d(10, 1), d(-150, 2), d(1000000, 6), d(1, math.MaxInt), d(1, math.MinInt), d(math.MinInt, math.MinInt), d(math.MaxInt, math.MaxInt))
	return told, other
}

// with is bk with x as its number n, B C B C B C.
func with(n int, x api.Dec) api.Glass {
	g := bk
	if n%2 == 0 {
		g.B[n/2] = x
	} else {
		g.C[n/2] = x
	}
	return g
}

// TestRight: of each list that Read may tell.
func TestRight(t *testing.T) {
	thirty, l := many(30)
	if got, _, _ := glass.Read(thirty); !glass.Right(got) || !glass.Right(l) {
		t.Errorf("11.1: Right of thirty is false")
	}
	if !glass.Right(nil) || !glass.Right([]api.Glass{}) || !glass.Right(glasses()) || !glass.Right([]api.Glass{{Name: "a"}, {Name: "A"}}) || !glass.Right([]api.Glass{{Name: "a-_9"}, {Name: strings.Repeat("a", 20)}}) {
		t.Errorf("11.1: Right of right ones is false")
	}
	told, _ := numbers()
	for _, x := range told {
		for n := range 6 {
			l := []api.Glass{k, with(n, x)}
			if !glass.Right(l) {
				t.Errorf("11.1: Right of number %d as %v is false", n, x)
			}
			if got, place, e := glass.Read(glass.Print(l)); e != api.OK || place != 0 || !slices.Equal(got, l) {
				t.Errorf("W7: Read of Print of %v: %v, %v, %d", l, got, place, e)
			}
		}
	}
}

// wrongs are lists that Read can't tell.
func wrongs() [][]api.Glass {
	var all [][]api.Glass
	for _, name := range []string{"", "air", " ", "1", "7a", "-a", "_a", "a b", "a ", " a", "a\t", "a\n", "\na", "a\nb", "a#", "a#b", "#", "#a", "a.", "a.b", "a1.5", "a;b", "é", "aé", "a\x00", "a\xff", "\xff", "a\r", "-1", "1.5", "\u212a", strings.Repeat("a", 21), strings.Repeat("a", 5000), strings.Repeat(" ", 5000), "a" + strings.Repeat(" ", 3999), "a 1 2 3 4 5 6\nglass b", "a 1 2 3 4 5 6\n#"} {
		all = append(all, []api.Glass{plain(name)}, []api.Glass{{Name: name}}, []api.Glass{bk, plain(name)}, []api.Glass{plain(name), bk}, []api.Glass{bk, plain(name), k})
	}
	_, other := numbers()
	for _, x := range other {
		for n := range 6 {
			all = append(all, []api.Glass{with(n, x)}, []api.Glass{k, with(n, x)}, []api.Glass{with(n, x), k})
		}
	}
	_, thirtyOne := many(31)
	_, forty := many(40)
	_, l := many(30)
	return append(all, []api.Glass{bk, bk}, []api.Glass{plain("a"), with(0, d(0, 0)), plain("a")}, []api.Glass{bk, k, {Name: "k"}}, []api.Glass{{Name: "a"}, {Name: "a"}}, thirtyOne, forty, make([]api.Glass, 1), make([]api.Glass, 31), append(slices.Clone(l[:29]), l[0]), append(slices.Clone(l[:29]), l[28]))
}

// TestWrong: of no other list; nothing is printed of it.
func TestWrong(t *testing.T) {
	for _, l := range wrongs() {
		if glass.Right(l) {
			t.Errorf("11.1: Right(%+v) is true", l)
		}
		if got := glass.Print(l); got != "" {
			t.Errorf("11.1: Print(%+v) is %q", l, got)
		}
	}
}

// TestPrint: `glass`, name, six numbers, a blank between, a line feed behind each.
func TestPrint(t *testing.T) {
	for _, c := range []struct {
		l    []api.Glass
		want string
	}{
		{nil, ""}, {[]api.Glass{}, ""},
		{[]api.Glass{bk}, bkLine},
		{[]api.Glass{k}, "glass k 1 0.01 0 1 0 1\n"},
		{[]api.Glass{plain("a"), k, bk}, "glass a 1 2 3 4 5 6\nglass k 1 0.01 0 1 0 1\n" + bkLine},
		{[]api.Glass{{Name: "a-_9"}}, "glass a-_9 0 0 0 0 0 0\n"},
		{[]api.Glass{of("glass", d(-15, 1), d(99999999999, 6), d(-99999999999, 6), d(1, 6), d(-1, 6), d(10, 0))}, "glass glass -1.5 99999.999999 -99999.999999 0.000001 -0.000001 10\n"},
		{[]api.Glass{sf}, "glass SF10 1.72448 0.013487 0.390105 0.056932 1.045728 118.557185\n"},
	} {
		if got := glass.Print(c.l); got != c.want {
			t.Errorf("11.1: Print(%v) is %q, not %q", c.l, got, c.want)
		}
		tells(t, "W7", c.want, c.l...)
	}
	if got, _, _ := glass.Read("# a\n glass  a 01.50 0.0 3\t4 5 6 # b\n"); glass.Print(got) != "glass a 1.5 0 3 4 5 6\n" {
		t.Errorf("11.1: Print is %q", glass.Print(got))
	}
	thirty, l := many(30)
	if got := glass.Print(l); got != thirty {
		t.Errorf("11.1: Print of thirty is %q", got)
	}
}

// TestPrintedAgain: the longest lists, too, are read again, each glass with its name and numbers.
func TestPrintedAgain(t *testing.T) {
	least, greatest := d(-99999999999, 6), d(99999999999, 6)
	var l []api.Glass
	for n := range 31 {
		text := glass.Print(l)
		if strings.Count(text, "\n") != n {
			t.Errorf("W7: %d glasses in %d lines", n, strings.Count(text, "\n"))
		}
		tells(t, "W7", text, l...)
		l = append(l, of(strings.Repeat("x", 18)+strconv.Itoa(10+n), least, greatest, least, least, greatest, least))
	}
	tells(t, "W7", glass.Print(glasses()), glasses()...)
}

// TestFind: the glass of that name; the zero glass and false, if there is none.
func TestFind(t *testing.T) {
	_, l := many(30)
	for _, g := range l {
		if got, ok := glass.Find(l, g.Name); got != g || !ok {
			t.Errorf("11.1: Find of %q: %v, %v", g.Name, got, ok)
		}
	}
	for _, g := range glasses() {
		if got, ok := glass.Find(glasses(), g.Name); got != g || !ok {
			t.Errorf("11.1: Find of %q: %v, %v", g.Name, got, ok)
		}
	}
	for _, name := range []string{"", "air", "K", "bk7", "BK", "BK77", "BK7 ", " BK7", "x", "g", "GA", "glass", "1", "\x00", strings.Repeat("k", 10000)} {
		for _, m := range [][]api.Glass{nil, {}, {k}, glasses(), l} {
			if got, ok := glass.Find(m, name); got != (api.Glass{}) || ok {
				t.Errorf("11.1: Find of %q: %v, %v", short(name), got, ok)
			}
		}
	}
	if got, ok := glass.Find(nil, "k"); got != (api.Glass{}) || ok {
		t.Errorf("11.1: Find in none: %v, %v", got, ok)
	}
}

// TestLine: d, F, C of 0, 1, 2; None of others.
func TestLine(t *testing.T) {
	for n, want := range []api.Iv{from(38508, 38509), from(31857, 31858), from(43011, 43012)} {
		if got := glass.Line(n); got != want || got != dec.Of([]api.Dec{d(5876, 4), d(4861, 4), d(6563, 4)}[n]) {
			t.Errorf("11.2: Line(%d): %v, not %v", n, got, want)
		}
	}
	for _, n := range []int{-1, -2, -3, 3, 4, 100, 256, 1 << 32, 1<<32 + 1, math.MaxInt, math.MaxInt - 1, math.MinInt, math.MinInt + 1, math.MinInt + 2} {
		if got := glass.Line(n); got != none() {
			t.Errorf("11.2: Line(%d): %v", n, got)
		}
	}
}

// lights are d, F, C, points, wide ones, one below 0, ones that have 0 in them, short ones.
func lights() []api.Iv {
	return []api.Iv{from(38508, 38509), from(31857, 31858), from(43011, 43012), from(65536, 65536), from(131072, 131072), from(38000, 38010), from(-38010, -38000), from(-65536, 131072), from(6553, 6554), from(0, 0), from(30000, 40000), from(100, 120)}
}

// TestIndex: literal numbers, reckoned apart.
func TestIndex(t *testing.T) {
	for _, c := range []struct {
		g    api.Glass
		want []api.Iv
	}{
		{bk, []api.Iv{from(99400, 99411), from(99764, 99778), from(99237, 99248), from(98795, 98798), from(97943, 97945), from(99406, 99447), from(99406, 99447), none(), from(119983, 120543), from(65536, 65536), from(86156, 120072), from(65342, 65536)}},
		{sf, []api.Iv{from(118297, 118310), from(119774, 119793), from(117701, 117715), from(116365, 116368), from(115192, 115195), from(118357, 118414), from(118357, 118414), none(), none(), from(65536, 65536), from(98563, 149844), from(65451, 65536)}},
		{k, []api.Iv{from(93367, 93374), from(93696, 93705), from(93227, 93235), none(), from(92739, 92741), from(93374, 93405), from(93374, 93405), none(), none(), from(65536, 65536), from(82323, 110971), from(65485, 65536)}},
		{one, []api.Iv{from(80263, 80267), from(80262, 80268), from(80262, 80267), from(80264, 80265), from(80264, 80265), from(80256, 80274), from(80256, 80274), none(), from(80224, 80286), none(), from(74180, 90074), none()}},
		{two, []api.Iv{from(84258, 84264), from(83523, 83532), from(84636, 84643), from(85690, 85692), from(86424, 86425), from(84202, 84224), from(84202, 84224), none(), from(58417, 58509), none(), from(76715, 94819), none()}},
		{three, []api.Iv{from(84384, 84391), from(83610, 83619), from(84795, 84802), from(86080, 86082), from(88874, 88876), from(84325, 84349), from(84325, 84349), none(), from(58422, 58515), from(65536, 65536), from(76798, 94941), from(65510, 65542)}},
		{third, []api.Iv{from(87104, 87110), from(87965, 87976), from(86752, 86760), from(85990, 85992), from(85580, 85582), from(87142, 87169), from(87142, 87169), none(), from(52790, 52875), none(), from(78319, 102637), none()}},
		{zero, []api.Iv{from(65536, 65536), from(65536, 65536), from(65536, 65536), from(65536, 65536), from(65536, 65536), from(65536, 65536), from(65536, 65536), none(), from(65536, 65536), none(), from(65536, 65536), none()}},
	} {
		for n, wave := range lights() {
			if got := glass.Index(c.g, wave); got != c.want[n] {
				t.Errorf("11.2: Index(%s, %v): %v, not %v", c.g.Name, wave, got, c.want[n])
			}
		}
		if c.want[0] != glass.Index(c.g, glass.Line(0)) || c.want[1] != glass.Index(c.g, glass.Line(1)) || c.want[2] != glass.Index(c.g, glass.Line(2)) {
			t.Errorf("11.2: Index of %s at a Line", c.g.Name)
		}
	}
}

// TestIndexAtTheEdges: where a step on the way is None, and where it is just none.
func TestIndexAtTheEdges(t *testing.T) {
	o := d(0, 0)
	for _, c := range []struct {
		b, c [3]api.Dec
		wave api.Iv
		want api.Iv
	}{
		// The sum goes from the left.
		{[3]api.Dec{d(12000, 0), d(12000, 0), d(-12000, 0)}, [3]api.Dec{}, from(65536, 65536), none()},
		{[3]api.Dec{d(12000, 0), d(-12000, 0), d(12000, 0)}, [3]api.Dec{}, from(65536, 65536), from(7179408, 7179409)},
		{[3]api.Dec{d(-12000, 0), d(12000, 0), d(12000, 0)}, [3]api.Dec{}, from(65536, 65536), from(7179408, 7179409)},
		{[3]api.Dec{d(16383, 0), o, o}, [3]api.Dec{}, from(65536, 65536), from(8388608, 8388608)},
		{[3]api.Dec{d(16384, 0), o, o}, [3]api.Dec{}, from(65536, 65536), none()},
		{[3]api.Dec{d(16384, 0), d(-2, 0), o}, [3]api.Dec{}, from(65536, 65536), none()},
		// B times l comes ahead of the quotient.
		{[3]api.Dec{d(9999, 0), o, o}, [3]api.Dec{}, from(131072, 131072), none()},
		{[3]api.Dec{d(4000, 0), o, o}, [3]api.Dec{}, from(131072, 131072), from(4145378, 4145379)},
		// The square of a light that has 0 in it does not go below 0.
		{[3]api.Dec{d(1, 0), o, o}, [3]api.Dec{d(-1, 0), d(-1, 0), d(-1, 0)}, from(-65536, 131072), from(65536, 146543)},
		// A root of 0, and of what may be below it.
		{[3]api.Dec{d(-1, 0), o, o}, [3]api.Dec{}, from(65536, 65536), from(0, 0)},
		{[3]api.Dec{d(-1, 0), o, o}, [3]api.Dec{}, from(65536, 65537), none()},
		{[3]api.Dec{d(-9, 0), o, o}, [3]api.Dec{}, from(65536, 65536), none()},
		// The greatest light whose square is a number.
		{[3]api.Dec{}, [3]api.Dec{}, from(8388608, 8388608), from(65536, 65536)},
		{[3]api.Dec{}, [3]api.Dec{}, from(8388608, 8388609), none()},
		{[3]api.Dec{}, [3]api.Dec{}, from(-8388608, -8388608), from(65536, 65536)},
		{[3]api.Dec{}, [3]api.Dec{}, from(-8388609, -8388608), none()},
		// Sub(l, C) has 0 in it, or all but.
		{[3]api.Dec{d(1, 0), o, o}, [3]api.Dec{d(9, 0), o, o}, from(196608, 196608), none()},
		{[3]api.Dec{o, d(1, 0), o}, [3]api.Dec{o, d(9, 0), o}, from(196608, 196608), none()},
		{[3]api.Dec{o, o, d(1, 0)}, [3]api.Dec{o, o, d(9, 0)}, from(196608, 196608), none()},
		{[3]api.Dec{}, [3]api.Dec{d(9, 0), o, o}, from(196608, 196608), none()},
		{[3]api.Dec{}, [3]api.Dec{o, d(9, 0), o}, from(196608, 196608), none()},
		{[3]api.Dec{}, [3]api.Dec{o, o, d(9, 0)}, from(196608, 196608), none()},
		{[3]api.Dec{d(1, 0), d(-1, 0), o}, [3]api.Dec{d(9, 0), d(9, 0), o}, from(196607, 196609), none()},
		{[3]api.Dec{d(1, 0), o, o}, [3]api.Dec{d(9, 0), o, o}, from(196616, 196616), from(7190826, 7265345)},
		{[3]api.Dec{d(1, 0), o, o}, [3]api.Dec{d(9, 0), o, o}, from(196600, 196600), none()},
	} {
		for _, name := range []string{"a", "", "Air"} {
			if got := glass.Index(api.Glass{Name: name, B: c.b, C: c.c}, c.wave); got != c.want {
				t.Errorf("11.2: Index of %v, %v at %v: %v, not %v", c.b, c.c, c.wave, got, c.want)
			}
		}
	}
}

// nones are lights that are not right.
func nones() []api.Iv {
	return []api.Iv{none(), {Lo: 38508, Hi: 38509, No: true}, from(38509, 38508), from(1, 0), from(0, api.Most+1), from(-api.Most-1, 0), from(math.MinInt, math.MaxInt), from(math.MaxInt, math.MinInt), from(math.MaxInt, math.MaxInt), from(math.MinInt, math.MinInt)}
}

// wrongNumbers are decimals that are not right, or no number of steps.
func wrongNumbers() []api.Dec {
	return []api.Dec{d(10, 1), d(0, 1), d(1, -1), d(1, 7), d(16385, 0), d(-16385, 0), d(99999, 0), d(100000000000, 0), d(100000000001, 0), d(math.MaxInt, 0), d(math.MinInt, 0), d(1, math.MaxInt), d(1, math.MinInt), d(math.MinInt, math.MinInt), d(math.MaxInt, math.MaxInt)}
}

// TestNoIndex: None of a light, or a number, that is none.
func TestNoIndex(t *testing.T) {
	for _, g := range glasses() {
		for _, wave := range nones() {
			if got := glass.Index(g, wave); got != none() {
				t.Errorf("11.2: Index(%s, %v): %v", g.Name, wave, got)
			}
		}
	}
	for _, x := range wrongNumbers() {
		for n := range 6 {
			for _, wave := range []api.Iv{glass.Line(0), from(65536, 65536), from(30000, 40000)} {
				if got := glass.Index(with(n, x), wave); got != none() {
					t.Errorf("11.2: Index with number %d as %v: %v", n, x, got)
				}
			}
			if got := glass.Abbe(with(n, x)); got != none() {
				t.Errorf("11.2: Abbe with number %d as %v: %v", n, x, got)
			}
		}
	}
}

// TestAir: Point(One), whatever its numbers and the light; of no other name.
func TestAir(t *testing.T) {
	for _, g := range append(glasses(), with(0, d(10, 1)), with(5, d(math.MinInt, math.MinInt)), with(2, d(-9, 0))) {
		a := g
		a.Name = "air"
		for _, wave := range append(lights(), nones()...) {
			if got := glass.Index(a, wave); got != iv.Point(api.One) {
				t.Errorf("11.2: Index(%v, %v): %v", a, wave, got)
			}
			for _, name := range []string{"", "Air", "AIR", "air ", "airs", "ai"} {
				if g.Name = name; glass.Index(g, wave) != reckoned(g, wave) {
					t.Errorf("11.2: Index(%v, %v): %v", g, wave, glass.Index(g, wave))
				}
			}
		}
		if got := glass.Abbe(a); got != none() {
			t.Errorf("11.2: Abbe(%v): %v", a, got)
		}
	}
}

// reckoned is Index of a glass that is not air, as the words are written.
func reckoned(g api.Glass, wave api.Iv) api.Iv {
	l := iv.Sqr(wave)
	s := func(k int) api.Iv {
		return iv.Div(iv.Mul(dec.Of(g.B[k]), l), iv.Sub(l, dec.Of(g.C[k])))
	}
	return iv.Root(iv.Add(iv.Add(iv.Add(iv.Point(api.One), s(0)), s(1)), s(2)))
}

// someGlasses are glasses of many numbers; among them ones whose poles lie in the light.
func someGlasses() []api.Glass {
	l := glasses()
	bs := []api.Dec{d(0, 0), d(1, 0), d(-1, 1), d(15, 1), d(-75, 2), d(231792, 6), d(120, 0), d(1, 6)}
	cs := []api.Dec{d(0, 0), d(1, 2), d(25, 2), d(-4, 0), d(9, 0), d(10356065, 5), d(345, 3), d(-1, 6)}
	for n := range 120 {
		l = append(l, of("g", bs[n%8], cs[n/3%8], bs[n/5%8], cs[n/7%8], bs[n/11%8], cs[n/13%8]))
	}
	return l
}

// someLights are lights of many places and widths.
func someLights() []api.Iv {
	l := lights()
	for _, lo := range []int{-40000, -3, 1, 256, 20000, 31857, 38508, 50000, 65535, 131000, 190000, 300000, 2000000} {
		for _, wide := range []int{0, 1, 2, 7, 60, 700, 9000} {
			l = append(l, from(lo, lo+wide))
		}
	}
	return l
}

// TestAsWritten: the words, of many glasses and lights.
func TestAsWritten(t *testing.T) {
	told := 0
	for _, g := range someGlasses() {
		for _, wave := range someLights() {
			got := glass.Index(g, wave)
			if got != reckoned(g, wave) {
				t.Errorf("11.2: Index(%v, %v): %v, not %v", g, wave, got, reckoned(g, wave))
			}
			if !got.No {
				told++
			}
			if below := glass.Index(g, iv.Neg(wave)); below != got {
				t.Errorf("11.2: Index(%v, %v): %v, and below 0 %v", g, wave, got, below)
			}
		}
		n := [3]api.Iv{reckoned(g, dec.Of(d(5876, 4))), reckoned(g, dec.Of(d(4861, 4))), reckoned(g, dec.Of(d(6563, 4)))}
		if got, want := glass.Abbe(g), iv.Div(iv.Sub(n[0], iv.Point(api.One)), iv.Sub(n[1], n[2])); got != want {
			t.Errorf("11.2: Abbe(%v): %v, not %v", g, got, want)
		}
	}
	if told < 3000 {
		t.Errorf("11.2: an Index of %d alone", told)
	}
}

// TestAbbe: literal numbers, reckoned apart.
func TestAbbe(t *testing.T) {
	for _, c := range []struct {
		g    api.Glass
		want api.Iv
	}{
		{bk, from(4102238, 4302388)}, {sf, from(1652841, 1679746)}, {k, from(3815758, 3957465)}, {two, from(-1111738, -1095504)}, {three, from(-1050750, -1036260)}, {third, from(1154804, 1173340)},
		// They part no colours, or have no index.
		{one, none()}, {zero, none()}, {of("g", d(-9, 0), d(0, 0), d(0, 0), d(0, 0), d(0, 0), d(0, 0)), none()}, {of("g", d(1, 0), d(345, 3), d(0, 0), d(0, 0), d(0, 0), d(0, 0)), none()},
		{api.Glass{Name: "air"}, none()}, {api.Glass{}, none()},
	} {
		if got := glass.Abbe(c.g); got != c.want {
			t.Errorf("11.2: Abbe(%v): %v, not %v", c.g, got, c.want)
		}
	}
}

// precise is x / y, close enough that no step goes astray.
func precise(x, y int) *big.Float {
	return new(big.Float).SetPrec(300).Quo(new(big.Float).SetPrec(300).SetInt64(int64(x)), new(big.Float).SetPrec(300).SetInt64(int64(y)))
}

// known is the index of g at the light, as an exact sum has it; false, if there is none.
func known(g api.Glass, light *big.Float) (*big.Float, bool) {
	float := func() *big.Float { return new(big.Float).SetPrec(300) }
	l := float().Mul(light, light)
	sum := precise(1, 1)
	for k := range 3 {
		below := float().Sub(l, precise(g.C[k].C, int(math.Pow10(g.C[k].Scale))))
		if below.Sign() == 0 {
			return nil, false
		}
		sum.Add(sum, float().Quo(float().Mul(precise(g.B[k].C, int(math.Pow10(g.B[k].Scale))), l), below))
	}
	if sum.Sign() < 0 {
		return nil, false
	}
	return float().Sqrt(sum), true
}

// has tells whether x, a number, lies in a, but for what its own digits leave out.
func has(a api.Iv, x *big.Float) bool {
	little := precise(1, 1<<60)
	steps := new(big.Float).SetPrec(300).Mul(x, precise(api.One, 1))
	return new(big.Float).SetPrec(300).Add(steps, little).Cmp(precise(a.Lo, 1)) >= 0 && new(big.Float).SetPrec(300).Sub(steps, little).Cmp(precise(a.Hi, 1)) <= 0
}

// TestEnclosed: the exact index at each light lies in the answer, and of less in less.
func TestEnclosed(t *testing.T) {
	held := 0
	for _, g := range someGlasses() {
		for _, wave := range someLights() {
			a := glass.Index(g, wave)
			if a.No {
				continue
			}
			mid := iv.Mid(wave)
			for _, less := range []api.Iv{from(wave.Lo, wave.Lo), from(wave.Hi, wave.Hi), from(mid, mid), from(wave.Lo, mid), from(mid, wave.Hi), from(min(wave.Lo+1, wave.Hi), wave.Hi)} {
				if b := glass.Index(g, less); !iv.Inside(b, a) {
					t.Errorf("W1: Index(%v, %v): %v, of %v %v", g, less, b, wave, a)
				}
				if n, ok := known(g, precise(less.Lo, api.One)); !ok || !has(a, n) {
					t.Errorf("W1: Index(%v, %v): %v has not %v", g, wave, a, n)
				}
				held++
			}
		}
	}
	if held < 10000 {
		t.Errorf("W1: %d lights alone", held)
	}
}

// TestKnownLines: the lines, the index at them and Abbe's number, all exact, lie in the answers.
func TestKnownLines(t *testing.T) {
	exact := []*big.Float{precise(5876, 10000), precise(4861, 10000), precise(6563, 10000)}
	for n, light := range exact {
		if !has(glass.Line(n), light) {
			t.Errorf("W1: Line(%d): %v", n, glass.Line(n))
		}
	}
	for _, g := range someGlasses() {
		var at [3]*big.Float
		all := true
		for n, light := range exact {
			index, ok := known(g, light)
			a := glass.Index(g, glass.Line(n))
			if !a.No && (!ok || !has(a, index)) {
				t.Errorf("W1: Index(%v, Line(%d)): %v has not %v", g, n, a, index)
			}
			at[n] = index
			all = all && ok
		}
		a := glass.Abbe(g)
		if a.No {
			continue
		}
		if !all {
			t.Errorf("W1: Abbe(%v): %v, and there is none", g, a)
			continue
		}
		above := new(big.Float).Sub(at[0], precise(1, 1))
		if abbe := new(big.Float).Quo(above, new(big.Float).Sub(at[1], at[2])); !has(a, abbe) {
			t.Errorf("W1: Abbe(%v): %v has not %v", g, a, abbe)
		}
	}
}

// TestNothingPanics: whatever is handed in.
func TestNothingPanics(t *testing.T) {
	ints := []int{math.MinInt, -1 << 32, -api.Most - 1, -api.Most, -1, 0, 1, 7, api.Most, api.Most + 1, 1 << 32, math.MaxInt}
	for _, c := range ints {
		glass.Line(c)
		for _, scale := range ints {
			for n := range 6 {
				g := with(n, d(c, scale))
				glass.Right([]api.Glass{g, g})
				glass.Print([]api.Glass{g})
				glass.Abbe(g)
				glass.Index(g, from(c, scale))
				glass.Index(g, api.Iv{Lo: c, Hi: scale, No: true})
			}
			glass.Index(bk, from(c, scale))
		}
	}
	for _, l := range wrongs() {
		glass.Find(l, "a")
		glass.Find(l, "")
		for _, g := range l {
			glass.Abbe(g)
		}
	}
	for _, name := range []string{strings.Repeat("a", 1<<20), strings.Repeat("\n", 1<<20), strings.Repeat("\xff", 1<<20)} {
		glass.Read(name)
		glass.Right([]api.Glass{{Name: name}})
		glass.Print([]api.Glass{{Name: name}})
		glass.Index(api.Glass{Name: name}, glass.Line(0))
	}
	glass.Right(make([]api.Glass, 1<<20))
	glass.Print(make([]api.Glass, 1<<20))
}

// TestNotChanged: a list that is handed in stands as it was, its spare room too.
func TestNotChanged(t *testing.T) {
	_, thirty := many(30)
	for _, all := range [][]api.Glass{glasses(), thirty, {bk, bk, k, k}, {plain("air"), plain(""), bk, k}} {
		for n := range all {
			l := slices.Clone(all)
			glass.Right(l[:n])
			glass.Print(l[:n])
			glass.Find(l[:n], "k")
			glass.Find(l[:n], "none")
			if !slices.Equal(l, all) {
				t.Errorf("R2: %v was changed to %v", all, l)
			}
		}
	}
}

// TestNotKept: what is handed in is not kept, and answers share no memory, neither with it nor with one another.
func TestNotKept(t *testing.T) {
	text := []byte("glass abc 1 2 3 4 5 6 # d\nglass E_f 1 2 3 4 5 6")
	got, _, _ := glass.Read(unsafe.String(&text[0], len(text)))
	if string(text) != "glass abc 1 2 3 4 5 6 # d\nglass E_f 1 2 3 4 5 6" {
		t.Errorf("R2: the text was changed: %q", text)
	}
	for k := range text {
		text[k] = '$'
	}
	if !slices.Equal(got, []api.Glass{plain("abc"), plain("E_f")}) {
		t.Errorf("R2: the text was kept: %v", got)
	}
	name, asked := []byte("abc"), []byte("abc")
	l := []api.Glass{plain(unsafe.String(&name[0], 3))}
	g, ok := glass.Find(l, unsafe.String(&asked[0], 3))
	printed := glass.Print(l)
	copy(name, "$$$")
	copy(asked, "$$$")
	if g != plain("abc") || !ok || printed != "glass abc 1 2 3 4 5 6\n" {
		t.Errorf("R2: a name was kept: %v, %v, %q", g, ok, printed)
	}
	a, _, _ := glass.Read(bkLine)
	b, _, _ := glass.Read(bkLine)
	clear(a[:cap(a)])
	if !slices.Equal(b, []api.Glass{bk}) {
		t.Errorf("R2: two answers share memory: %v", b)
	}
}

// TestSameAgain: the same call tells the same, whatever was told in between.
func TestSameAgain(t *testing.T) {
	thirty, l := many(30)
	texts := []string{"", bkLine, "$", "glass air", "glass a", bkLine + bkLine, thirty, thirty + "glass more", "glass k 1 0.01 0 1 0 1", strings.Repeat("a", 4001)}
	for _, s := range texts {
		got, place, e := glass.Read(s)
		for _, other := range texts {
			glass.Read(other)
			if again, p, n := glass.Read(s); !slices.Equal(again, got) || p != place || n != e {
				t.Errorf("R4: %q is told otherwise behind %q: %v, %v, %d", short(s), short(other), again, p, n)
			}
		}
	}
	for _, g := range someGlasses() {
		for _, wave := range lights() {
			index, abbe := glass.Index(g, wave), glass.Abbe(g)
			glass.Index(bk, glass.Line(1))
			glass.Print(l)
			if glass.Index(g, wave) != index || glass.Abbe(g) != abbe {
				t.Errorf("R4: Index or Abbe of %v at %v is told otherwise", g, wave)
			}
		}
	}
}

// FuzzRead: nothing panics, and each text is read as the document says.
func FuzzRead(f *testing.F) {
	for _, s := range []string{"", bkLine, "glass k 1 0.01 0 1 0 1", "glass air", "glass a\n", "glass a 1 2 3 4 5 6\nglass a", "glass a 1 2 3 4 5 6#\r", "\xff"} {
		f.Add(s)
	}
	f.Fuzz(func(t *testing.T, s string) {
		check(t, s)
	})
}

// FuzzIndex: nothing panics, and each index is as the words are written.
func FuzzIndex(f *testing.F) {
	f.Add("a", 1, 0, 1, 2, 38508, 38509)
	f.Add("air", math.MinInt, math.MaxInt, 0, 0, 1, 0)
	f.Fuzz(func(t *testing.T, name string, b, bScale, c, cScale, lo, hi int) {
		g := of(name, d(b, bScale), d(c, cScale), d(c, cScale), d(b, bScale), d(b, cScale), d(c, bScale))
		want := reckoned(g, from(lo, hi))
		if name == "air" {
			want = iv.Point(api.One)
		}
		if got := glass.Index(g, from(lo, hi)); got != want {
			t.Errorf("11.2: Index(%v, %d to %d): %v, not %v", g, lo, hi, got, want)
		}
		l := []api.Glass{g}
		again, _, e := glass.Read(glass.Print(l))
		if glass.Right(l) != (e == api.OK && slices.Equal(again, l)) {
			t.Errorf("11.1: Right(%v) is %v, and what is printed tells %v, %d", l, glass.Right(l), again, e)
		}
	})
}

package lex_test

import (
	"regexp"
	"slices"
	"strings"
	"testing"
	"unsafe"

	"meniscus/api"
	"meniscus/dec"
	"meniscus/lex"
)

const (
	small = "abcdefghijklmnopqrstuvwxyz"
	great = "ABCDEFGHIJKLMNOPQRSTUVWXYZ"
)

func at(line, column int) complex128 {
	return complex(float64(line), float64(column))
}

func word(s string, line, column int) lex.Token {
	return lex.Token{Kind: lex.Word, Text: s, At: at(line, column)}
}

func number(s string, line, column int) lex.Token {
	return lex.Token{Kind: lex.Number, Text: s, At: at(line, column)}
}

func end(line, column int) lex.Token {
	return lex.Token{Kind: lex.End, At: at(line, column)}
}

// short is the beginning of s, to be told of.
func short(s string) string {
	return s[:min(len(s), 60)]
}

// tells holds the tokens of s against want; their error is OK, and its place 0.
func tells(t *testing.T, promise, s string, want ...lex.Token) {
	t.Helper()
	got, place, e := lex.Tokens(s)
	if e != api.OK || place != 0 || !slices.Equal(got, want) {
		t.Errorf("%s: Tokens(%q): %v, %v, %d, not %v", promise, short(s), got, place, e, want)
	}
}

// refuses holds the error of s, and its place, against e and place; there is no token beside it.
func refuses(t *testing.T, promise, s string, place complex128, e api.Errno) {
	t.Helper()
	if got, p, n := lex.Tokens(s); len(got) != 0 || p != place || n != e {
		t.Errorf("%s: Tokens(%q): %v, %v, %d, not %d at %v", promise, short(s), got, p, n, e, place)
	}
}

// TestKinds: Word, Number, End, from 1 on.
func TestKinds(t *testing.T) {
	if lex.Word != 1 || lex.Number != 2 || lex.End != 3 {
		t.Errorf("10.1: %d, %d, %d", lex.Word, lex.Number, lex.End)
	}
}

// TestExample: the example of chapter 10.
func TestExample(t *testing.T) {
	got, place, e := lex.Tokens("a 1.5")
	want := []lex.Token{{Kind: lex.Word, Text: "a", At: 1 + 1i}, {Kind: lex.Number, Text: "1.5", At: 1 + 3i}, {Kind: lex.End, At: 1 + 6i}}
	if !slices.Equal(got, want) || place != 0 || e != api.OK {
		t.Errorf("10.1: %v, %v, %d", got, place, e)
	}
}

// TestNothing: no text at all, and texts without a token, have no token and no error.
func TestNothing(t *testing.T) {
	for _, s := range []string{"", "\n", "\n\n\n", " ", "\t", " \t \t", "  \n\t\n ", "#", "# a 1.5", "#\n", "#\n#", "\n#\n\n", " # a\n\t# b\n", "##", "# \xff\x00$é;_.", "#\r\n#\r\n", strings.Repeat(" ", api.MaxText), strings.Repeat("\n", api.MaxText), "#" + strings.Repeat("$", api.MaxText-1)} {
		tells(t, "10.1", s)
	}
}

// TestPlaces: complex(line, column), both from 1 on; a line feed ends a line, and nothing else does.
func TestPlaces(t *testing.T) {
	tells(t, "10.1", "a", word("a", 1, 1), end(1, 2))
	tells(t, "10.1", " a", word("a", 1, 2), end(1, 3))
	tells(t, "10.1", "\na", word("a", 2, 1), end(2, 2))
	tells(t, "10.1", "\n a\n", word("a", 2, 2), end(2, 3))
	tells(t, "10.1", "a\nb", word("a", 1, 1), end(1, 2), word("b", 2, 1), end(2, 2))
	tells(t, "10.1", "abc 12 d\n  -3.5 e\n\n\n   f", word("abc", 1, 1), number("12", 1, 5), word("d", 1, 8), end(1, 9), number("-3.5", 2, 3), word("e", 2, 8), end(2, 9), word("f", 5, 4), end(5, 5))
	tells(t, "10.1", "7\n\n \n#\n8", number("7", 1, 1), end(1, 2), number("8", 5, 1), end(5, 2))
	tells(t, "10.1", strings.Repeat("\n", 3999)+"a", word("a", 4000, 1), end(4000, 2))
	tells(t, "10.1", strings.Repeat(" ", 3999)+"a", word("a", 1, 4000), end(1, 4001))
	refuses(t, "10.1", "a\vb", at(1, 2), api.ErrForm)
	refuses(t, "10.1", "a\fb", at(1, 2), api.ErrForm)
	refuses(t, "10.1", "a\rb", at(1, 2), api.ErrForm)
	refuses(t, "10.1", "a\r\nb", at(1, 2), api.ErrForm)
	refuses(t, "10.1", "a\n\n  $", at(3, 3), api.ErrForm)
	refuses(t, "10.1", strings.Repeat("\n", 3999)+"$", at(4000, 1), api.ErrForm)
	refuses(t, "10.1", strings.Repeat("\t", 3999)+"$", at(1, 4000), api.ErrForm)
}

// TestLongTexts: MaxText bytes are read; of more there is ErrBig, at 0, whatever bytes they are.
func TestLongTexts(t *testing.T) {
	for b := range 256 {
		for _, n := range []int{api.MaxText + 1, api.MaxText + 2, 2 * api.MaxText, 100000} {
			refuses(t, "10.1", strings.Repeat(string([]byte{byte(b)}), n), 0, api.ErrBig)
		}
	}
	for _, s := range []string{"a ", "1 ", "$ ", "#", "a\n", "-0 ", "é", strings.Repeat("a", 21) + " "} {
		refuses(t, "10.1", strings.Repeat(s, api.MaxText+1), 0, api.ErrBig)
		refuses(t, "10.1", strings.Repeat(s, api.MaxText+1)[:api.MaxText+1], 0, api.ErrBig)
	}
	refuses(t, "10.1", strings.Repeat(" ", api.MaxText-1)+"é", 0, api.ErrBig)
	refuses(t, "10.1", strings.Repeat(" ", api.MaxText-1)+"$", at(1, api.MaxText), api.ErrForm)
	refuses(t, "10.1", strings.Repeat("$", api.MaxText), at(1, 1), api.ErrForm)
	refuses(t, "10.1", strings.Repeat("1", api.MaxText), at(1, 1), api.ErrForm)
	refuses(t, "10.1", strings.Repeat("a", api.MaxText), at(1, 1), api.ErrBig)
	tells(t, "10.1", strings.Repeat(" ", api.MaxText-1)+"a", word("a", 1, api.MaxText), end(1, api.MaxText+1))
	tells(t, "10.1", "a"+strings.Repeat(" ", api.MaxText-1), word("a", 1, 1), end(1, api.MaxText+1))
	if got, place, e := lex.Tokens(strings.Repeat("a ", api.MaxText/2)); len(got) != api.MaxText/2+1 || place != 0 || e != api.OK {
		t.Errorf("10.1: of %d bytes: %d tokens, %v, %d", api.MaxText, len(got), place, e)
	}
	if got, place, e := lex.Tokens(strings.Repeat("a\n", api.MaxText/2)); len(got) != api.MaxText || place != 0 || e != api.OK {
		t.Errorf("10.1: of %d bytes: %d tokens, %v, %d", api.MaxText, len(got), place, e)
	}
}

// TestBlanks: blanks and tabs part, one column each; so many of them as stand there.
func TestBlanks(t *testing.T) {
	tells(t, "10.1", "a b", word("a", 1, 1), word("b", 1, 3), end(1, 4))
	tells(t, "10.1", "a\tb", word("a", 1, 1), word("b", 1, 3), end(1, 4))
	tells(t, "10.1", "a \t  \tb", word("a", 1, 1), word("b", 1, 7), end(1, 8))
	tells(t, "10.1", "\t1\t 2", number("1", 1, 2), number("2", 1, 5), end(1, 6))
	tells(t, "10.1", "1 2", number("1", 1, 1), number("2", 1, 3), end(1, 4))
	refuses(t, "10.1", "1 .5", at(1, 3), api.ErrForm)
	refuses(t, "10.1", "1. 5", at(1, 1), api.ErrForm)
}

// TestRemarks: `#` and all up to the line's end is passed over, whatever it is; the line feed ends it.
func TestRemarks(t *testing.T) {
	tells(t, "10.1", "a#b", word("a", 1, 1), end(1, 4))
	tells(t, "10.1", "a#b\nc", word("a", 1, 1), end(1, 4), word("c", 2, 1), end(2, 2))
	tells(t, "10.1", "1.5#2", number("1.5", 1, 1), end(1, 6))
	tells(t, "10.1", "1.5#2\n3", number("1.5", 1, 1), end(1, 6), number("3", 2, 1), end(2, 2))
	tells(t, "10.1", "a #", word("a", 1, 1), end(1, 4))
	tells(t, "10.1", "a #\n", word("a", 1, 1), end(1, 4))
	tells(t, "10.1", "#a\nb", word("b", 2, 1), end(2, 2))
	tells(t, "10.1", " \t# a\nb # c # d\ne", word("b", 2, 1), end(2, 10), word("e", 3, 1), end(3, 2))
	tells(t, "10.1", "a\n# b", word("a", 1, 1), end(1, 2))
	tells(t, "10.1", "a # $;.\r\x00\xff_ -0 123456 1.2.3 é\nb", word("a", 1, 1), end(1, 31), word("b", 2, 1), end(2, 2))
	tells(t, "10.1", "a # "+strings.Repeat("b", 100), word("a", 1, 1), end(1, 105))
	tells(t, "10.1", "a # b\n\n\n# c\n  d # e", word("a", 1, 1), end(1, 6), word("d", 5, 3), end(5, 8))
	for b := range 256 {
		if b == '\n' {
			continue
		}
		put := string([]byte{byte(b)})
		tells(t, "10.1", "#"+put)
		tells(t, "10.1", "#"+put+put+" "+put+"\n")
		tells(t, "10.1", "a#"+put+"\nb", word("a", 1, 1), end(1, 4), word("b", 2, 1), end(2, 2))
		tells(t, "10.1", "1 # "+put+" 2", number("1", 1, 1), end(1, 8))
	}
}

// TestWords: a letter, and letters, digits, `-` and `_` behind it.
func TestWords(t *testing.T) {
	for _, c := range small + great {
		for _, s := range []string{string(c), string(c) + "-", string(c) + "_", string(c) + "0", string(c) + small[:19], string(c) + great[:19], string(c) + small[13:] + "zzzzzz", string(c) + great[13:], string(c) + "-_0123456789", string(c) + "--", string(c) + "-1", string(c) + "__", "a" + string(c), "a1" + string(c)} {
			tells(t, "10.1", s, word(s, 1, 1), end(1, len(s)+1))
			tells(t, "10.1", "\n "+s+" "+s+"\t", word(s, 2, 2), word(s, 2, len(s)+3), end(2, 2*len(s)+4))
		}
	}
	for b := range 256 {
		s := "a" + string([]byte{byte(b)}) + "b"
		switch in := strings.IndexByte(small+great+"0123456789-_", byte(b)) >= 0; {
		case in:
			tells(t, "10.1", s, word(s, 1, 1), end(1, 4))
		case b == ' ' || b == '\t':
			tells(t, "10.1", s, word("a", 1, 1), word("b", 1, 3), end(1, 4))
		case b == '\n':
			tells(t, "10.1", s, word("a", 1, 1), end(1, 2), word("b", 2, 1), end(2, 2))
		case b == '#':
			tells(t, "10.1", s, word("a", 1, 1), end(1, 4))
		default:
			refuses(t, "10.1", s, at(1, 2), api.ErrForm)
		}
	}
}

// TestLongWords: MaxWord bytes are a Word; of more there is ErrBig, at its beginning, whatever stands behind it.
func TestLongWords(t *testing.T) {
	for _, s := range []string{strings.Repeat("a", 20), "Z" + strings.Repeat("9", 19), "b" + strings.Repeat("-", 19), "c" + strings.Repeat("_", 19), "abcdefghij-_01234567"} {
		tells(t, "10.1", s, word(s, 1, 1), end(1, 21))
		tells(t, "10.1", s+" "+s+"#", word(s, 1, 1), word(s, 1, 22), end(1, 43))
		refuses(t, "10.1", s+"$", at(1, 21), api.ErrForm)
		refuses(t, "10.1", s+".", at(1, 21), api.ErrForm)
		for _, more := range []string{"a", "Z", "0", "9", "-", "_", "a$", "a $", "- 123456", "0.5", "a\n$", "_#", strings.Repeat("x", 500), strings.Repeat("x", 500) + "$"} {
			refuses(t, "10.1", s+more, at(1, 1), api.ErrBig)
			refuses(t, "10.1", " \t"+s+more, at(1, 3), api.ErrBig)
			refuses(t, "10.1", "a 1 # b\n\n b "+s+more, at(3, 4), api.ErrBig)
			refuses(t, "10.1", "1"+s+more, at(1, 2), api.ErrBig)
		}
	}
	refuses(t, "10.1", "$ "+strings.Repeat("a", 21), at(1, 1), api.ErrForm)
	tells(t, "10.1", "#"+strings.Repeat("a", 21))
}

// TestNumbers: a digit, or `-`, and digits and `.` behind it, as dec.Read takes them; their text as it stands.
func TestNumbers(t *testing.T) {
	for _, s := range []string{"0", "1", "2", "3", "4", "5", "6", "7", "8", "9", "-1", "-9", "10", "12345", "99999", "-99999", "1.5", "-0.25", "1.50", "0.0", "00000", "00007.5", "0.000001", "-0.000001", "12345.678901", "-99999.999999", "1.000000", "-00001.100000"} {
		tells(t, "10.1", s, number(s, 1, 1), end(1, len(s)+1))
		tells(t, "10.1", "\n\n\t"+s+" "+s+" \n", number(s, 3, 2), number(s, 3, len(s)+3), end(3, 2*len(s)+4))
		tells(t, "10.1", "a "+s, word("a", 1, 1), number(s, 1, 3), end(1, len(s)+3))
	}
}

// TestNoNumbers: ErrForm, at its beginning, of each that dec.Read does not take.
func TestNoNumbers(t *testing.T) {
	for _, s := range []string{
		"-", "-.", "-.5", "-..", "-.0", "--", "--1", "-a", "- 1", "-\t1", "-#", "-_", "-$",
		"1.", "-1.", "0.", "12345.", "1..", "1.a", "1. 5", "1.-5", "1.$",
		"1.2.3", "1..2", "1.2.", "-1.2.3", "1.2.3.4", "1.5.",
		"-0", "-00", "-00000", "-0.0", "-0.000000", "-000.00",
		"123456", "-123456", "000000", "000001", "100000", "123456.5", "1234567890123",
		"1.1234567", "-1.1234567", "0.0000000", "1.5000000", "1.0000001",
		strings.Repeat("1", 30), strings.Repeat("0", 1500), "1." + strings.Repeat("0", 1500), "1" + strings.Repeat(".", 300), "-" + strings.Repeat("9", 300),
	} {
		refuses(t, "10.1", s, at(1, 1), api.ErrForm)
		refuses(t, "10.1", " "+s+" $", at(1, 2), api.ErrForm)
		refuses(t, "10.1", "a 1 # -\n\n  b\t"+s+"\n"+s, at(3, 5), api.ErrForm)
		refuses(t, "10.1", "1.5 "+s+"#", at(1, 5), api.ErrForm)
	}
}

// TestBehindNumbers: at what ends a Number, the next token, or the error, begins.
func TestBehindNumbers(t *testing.T) {
	tells(t, "10.1", "1a", number("1", 1, 1), word("a", 1, 2), end(1, 3))
	tells(t, "10.1", "1.5mm", number("1.5", 1, 1), word("mm", 1, 4), end(1, 6))
	tells(t, "10.1", "1e5", number("1", 1, 1), word("e5", 1, 2), end(1, 4))
	tells(t, "10.1", "1-2", number("1", 1, 1), number("-2", 1, 2), end(1, 4))
	tells(t, "10.1", "-1-2.5-3", number("-1", 1, 1), number("-2.5", 1, 3), number("-3", 1, 7), end(1, 9))
	tells(t, "10.1", "1#2", number("1", 1, 1), end(1, 4))
	tells(t, "10.1", "1\n2", number("1", 1, 1), end(1, 2), number("2", 2, 1), end(2, 2))
	refuses(t, "10.1", "1-", at(1, 2), api.ErrForm)
	refuses(t, "10.1", "1--2", at(1, 2), api.ErrForm)
	refuses(t, "10.1", "1-0", at(1, 2), api.ErrForm)
	refuses(t, "10.1", "1-.5", at(1, 2), api.ErrForm)
	refuses(t, "10.1", "1_000", at(1, 2), api.ErrForm)
	refuses(t, "10.1", "1,5", at(1, 2), api.ErrForm)
	refuses(t, "10.1", "1"+strings.Repeat("a", 21), at(1, 2), api.ErrBig)
	for b := range 256 {
		put := string([]byte{byte(b)})
		switch {
		case strings.Contains(small+great, put):
			tells(t, "10.1", "12"+put, number("12", 1, 1), word(put, 1, 3), end(1, 4))
		case strings.Contains("0123456789", put):
			tells(t, "10.1", "12"+put, number("12"+put, 1, 1), end(1, 4))
		case strings.Contains(" \t#", put):
			tells(t, "10.1", "12"+put, number("12", 1, 1), end(1, 4))
		case put == "\n":
			tells(t, "10.1", "12"+put, number("12", 1, 1), end(1, 3))
		case put == ".":
			refuses(t, "10.1", "12"+put, at(1, 1), api.ErrForm)
		default:
			refuses(t, "10.1", "12"+put, at(1, 3), api.ErrForm)
		}
	}
}

// TestBehindWords: at what ends a Word, the error begins; digits and `-` behind it are its own.
func TestBehindWords(t *testing.T) {
	tells(t, "10.1", "a1", word("a1", 1, 1), end(1, 3))
	tells(t, "10.1", "a-1", word("a-1", 1, 1), end(1, 4))
	tells(t, "10.1", "a -1", word("a", 1, 1), number("-1", 1, 3), end(1, 5))
	refuses(t, "10.1", "a.", at(1, 2), api.ErrForm)
	refuses(t, "10.1", "a.5", at(1, 2), api.ErrForm)
	refuses(t, "10.1", "a-1.5", at(1, 4), api.ErrForm)
	refuses(t, "10.1", "a;b", at(1, 2), api.ErrForm)
	refuses(t, "10.1", "a\xc3\xa9", at(1, 2), api.ErrForm)
}

// TestOtherBytes: each of the 256 at a token's beginning: it begins one, or parts, or is refused at its place.
func TestOtherBytes(t *testing.T) {
	for b := range 256 {
		put := string([]byte{byte(b)})
		for _, c := range []struct {
			ahead, behind string
			place         complex128
		}{
			{"", "", at(1, 1)}, {"", "a", at(1, 1)}, {"", "5", at(1, 1)}, {"  ", "", at(1, 3)}, {"\t", " $", at(1, 2)}, {"\n", "\n", at(2, 1)}, {"a ", " b", at(1, 3)}, {"1 ", "", at(1, 3)}, {"a\n\n# \xff\n b ", "", at(4, 4)}, {"", strings.Repeat("b", 21), at(1, 1)}, {"", put, at(1, 1)},
		} {
			if strings.Contains(small+great+"0123456789- \t#\n", put) {
				if _, place, e := lex.Tokens(c.ahead + put); e != api.OK && (put != "-" || e != api.ErrForm || place != c.place) {
					t.Errorf("10.1: Tokens(%q): %d at %v", c.ahead+put, e, place)
				}
				continue
			}
			refuses(t, "10.1", c.ahead+put+c.behind, c.place, api.ErrForm)
		}
	}
	for _, s := range []string{"_", "_a", ".", ".5", "+1", "\r", "\r\n", "\v", "\f", "\x00", "\x7f", "\x80", "\xff", "é", "ä", "\u00a0", "\u2003", "\u0661", "\uff11", "\u2212" + "1", "\ufeffa", "α", "ſ", "\u212a", "\u00aa", "(", ")", "\"", "'", "*", "/", ":", ";", "<", "=", "@", "[", "\\", "]", "^", "`", "{", "|", "}", "~", "!", "$", "%", "&", ",", "?"} {
		refuses(t, "10.1", s, at(1, 1), api.ErrForm)
		refuses(t, "10.1", "b  "+s, at(1, 4), api.ErrForm)
		refuses(t, "10.1", "b\n"+s, at(2, 1), api.ErrForm)
	}
}

// TestEnds: one behind the last token of each line that has any, at the line feed's place, or the text's end's; none in a line that has none.
func TestEnds(t *testing.T) {
	for _, c := range []struct {
		line   string
		tokens []lex.Token
	}{
		{"a", []lex.Token{word("a", 1, 1)}},
		{"a  ", []lex.Token{word("a", 1, 1)}},
		{"a\t \t", []lex.Token{word("a", 1, 1)}},
		{"a # b", []lex.Token{word("a", 1, 1)}},
		{"a#", []lex.Token{word("a", 1, 1)}},
		{"1", []lex.Token{number("1", 1, 1)}},
		{" 1 ", []lex.Token{number("1", 1, 2)}},
		{"1 # 2 ", []lex.Token{number("1", 1, 1)}},
		{"a b 1 2 c", []lex.Token{word("a", 1, 1), word("b", 1, 3), number("1", 1, 5), number("2", 1, 7), word("c", 1, 9)}},
		{"", nil}, {" ", nil}, {"\t", nil}, {"#", nil}, {" # a", nil},
	} {
		want := c.tokens
		if want != nil {
			want = append(slices.Clone(want), end(1, len(c.line)+1))
		}
		tells(t, "10.1", c.line, want...)
		tells(t, "10.1", c.line+"\n", want...)
		tells(t, "10.1", c.line+"\n\n \n#\n", want...)
		tells(t, "10.1", c.line+"\nz", append(slices.Clone(want), word("z", 2, 1), end(2, 2))...)
		tells(t, "10.1", c.line+"\n\n"+"z\n", append(slices.Clone(want), word("z", 3, 1), end(3, 2))...)
	}
}

// TestFirstError: the first from the left is told, with its place, and no token beside it.
func TestFirstError(t *testing.T) {
	long := strings.Repeat("w", 21)
	for _, c := range []struct {
		s     string
		place complex128
		e     api.Errno
	}{
		{"$ ;", at(1, 1), api.ErrForm}, {"a $ ;", at(1, 3), api.ErrForm}, {"$ " + long, at(1, 1), api.ErrForm}, {long + " $", at(1, 1), api.ErrBig}, {long + "$", at(1, 1), api.ErrBig},
		{"-0 " + long, at(1, 1), api.ErrForm}, {long + " -0", at(1, 1), api.ErrBig}, {"1.2.3$", at(1, 1), api.ErrForm}, {"1.2$", at(1, 4), api.ErrForm}, {"1.2.$", at(1, 1), api.ErrForm},
		{"a 1 b\n$\n" + long, at(2, 1), api.ErrForm}, {"a 1 b\n " + long + "\n$", at(2, 2), api.ErrBig}, {"a\n\n\nb 1 -", at(4, 5), api.ErrForm}, {"# $\n" + long, at(2, 1), api.ErrBig}, {"-" + long, at(1, 1), api.ErrForm}, {"1" + long, at(1, 2), api.ErrBig},
		{"a-" + long, at(1, 1), api.ErrBig}, {"123456" + long, at(1, 1), api.ErrForm}, {"a b c d 1 2 3 4\n5 6 7 e.", at(2, 8), api.ErrForm},
	} {
		refuses(t, "10.1", c.s, c.place, c.e)
		refuses(t, "10.1", "\n\n\n"+c.s, c.place+3, c.e)
		refuses(t, "10.1", "x 1 # y\n"+c.s+"\n$\n", c.place+1, c.e)
	}
}

var (
	blanks    = regexp.MustCompile(`\A[ \t]+`)
	wordForm  = regexp.MustCompile(`\A[A-Za-z][-A-Za-z0-9_]*`)
	numerals  = regexp.MustCompile(`\A(-|[0-9])[0-9.]*`)
	remark    = regexp.MustCompile(`\A#`)
	decimal   = regexp.MustCompile(`\A-?[0-9]{1,5}(\.[0-9]{1,6})?\z`)
	belowNone = regexp.MustCompile(`\A-[0.]*\z`)
)

// meant is what the document says of s, line by line.
func meant(s string) ([]lex.Token, complex128, api.Errno) {
	if len(s) > api.MaxText {
		return nil, 0, api.ErrBig
	}
	var all []lex.Token
	for k, line := range strings.Split(s, "\n") {
		tokens, column, e := meantLine(line, k+1)
		if e != api.OK {
			return nil, at(k+1, column), e
		}
		all = append(all, tokens...)
	}
	return all, 0, api.OK
}

// meantLine is what it says of one line; the column of the error, if there is one.
func meantLine(line string, n int) ([]lex.Token, int, api.Errno) {
	var tokens []lex.Token
	for k := 0; k < len(line); {
		rest := line[k:]
		if remark.MatchString(rest) {
			break
		}
		if s := blanks.FindString(rest); s != "" {
			k += len(s)
		} else if s := wordForm.FindString(rest); s != "" {
			if len(s) > 20 {
				return nil, k + 1, api.ErrBig
			}
			tokens = append(tokens, word(s, n, k+1))
			k += len(s)
		} else if s := numerals.FindString(rest); decimal.MatchString(s) && !belowNone.MatchString(s) {
			tokens = append(tokens, number(s, n, k+1))
			k += len(s)
		} else {
			return nil, k + 1, api.ErrForm
		}
	}
	if len(tokens) > 0 {
		tokens = append(tokens, end(n, len(line)+1))
	}
	return tokens, 0, api.OK
}

// check holds Tokens of s against what the document says.
func check(t *testing.T, s string) {
	t.Helper()
	want, place, e := meant(s)
	if got, p, n := lex.Tokens(s); !slices.Equal(got, want) || p != place || n != e {
		t.Errorf("10.1: Tokens(%q): %v, %v, %d, not %v, %v, %d", short(s), got, p, n, want, place, e)
	}
}

// TestAllShortTexts: each text of up to 6 of some bytes.
func TestAllShortTexts(t *testing.T) {
	var walk func(s string, n int)
	walk = func(s string, n int) {
		check(t, s)
		for k := 0; k < 8 && n > 0; k++ {
			walk(s+"a1-. #\n_"[k:k+1], n-1)
		}
	}
	walk("", 6)
}

// TestAllBytes: each byte, and each two, put into texts.
func TestAllBytes(t *testing.T) {
	for _, s := range []string{"a 1.5\nb-2 # c\n-3", "", "#", strings.Repeat("a", 20), "12345.678901"} {
		for k := 0; k <= len(s); k++ {
			for b := range 256 {
				check(t, s[:k]+string([]byte{byte(b)})+s[k:])
			}
		}
	}
	for b := range 256 {
		for c := range 256 {
			check(t, string([]byte{byte(b), byte(c)}))
			check(t, string([]byte{'a', byte(b), byte(c), '\n'}))
		}
	}
}

// TestPrintedAgain: what dec prints is a Number, and is read again the same.
func TestPrintedAgain(t *testing.T) {
	for c := -100003; c <= 100003; c += 7 {
		for scale := range 7 {
			d := api.Dec{C: c, Scale: scale}
			text := dec.Print(d)
			if text == "" {
				continue
			}
			tokens, _, e := lex.Tokens("f " + text + "\n")
			if e != api.OK || len(tokens) != 3 || tokens[1] != number(text, 1, 3) {
				t.Fatalf("W7: Tokens of %q: %v, %d", text, tokens, e)
			}
			if back, ok := dec.Read(tokens[1].Text); back != d || !ok {
				t.Errorf("W7: %v is printed %q, and read %v", d, text, back)
			}
		}
	}
}

// written is a text of the tokens: a blank between them, and a line feed for each End.
func written(tokens []lex.Token) string {
	s := ""
	for _, k := range tokens {
		if k.Kind == lex.End {
			s += "\n"
		} else {
			s += k.Text + " "
		}
	}
	return s
}

// TestWrittenAgain: tokens that are written have the same kinds and texts when they are read.
func TestWrittenAgain(t *testing.T) {
	for _, s := range []string{"", "a", "a 1.5", "1-2 # c\n\n b_ -0.5x", "1a2b3c\n4d", "\n\n7\n-8-9"} {
		first, _, e := lex.Tokens(s)
		again, _, f := lex.Tokens(written(first))
		if e != api.OK || f != api.OK || len(first) != len(again) {
			t.Errorf("W7: %q: %v, %d, %v, %d", s, first, e, again, f)
			continue
		}
		for k := range first {
			if first[k].Kind != again[k].Kind || first[k].Text != again[k].Text {
				t.Errorf("W7: %q: %v is read again as %v", s, first[k], again[k])
			}
		}
	}
}

// TestNotKept: what is handed in is not kept, and two answers share no memory.
func TestNotKept(t *testing.T) {
	bytes := []byte("abc -1.5 # d\nE_f")
	want := []lex.Token{word("abc", 1, 1), number("-1.5", 1, 5), end(1, 13), word("E_f", 2, 1), end(2, 4)}
	got, _, _ := lex.Tokens(unsafe.String(&bytes[0], len(bytes)))
	if string(bytes) != "abc -1.5 # d\nE_f" {
		t.Errorf("R2: the text was changed: %q", bytes)
	}
	for k := range bytes {
		bytes[k] = '$'
	}
	if !slices.Equal(got, want) {
		t.Errorf("R2: the text was kept: %v", got)
	}
	a, _, _ := lex.Tokens("a 1")
	b, _, _ := lex.Tokens("a 1")
	for k := range a[:cap(a)] {
		a[:cap(a)][k] = lex.Token{}
	}
	if !slices.Equal(b, []lex.Token{word("a", 1, 1), number("1", 1, 3), end(1, 4)}) {
		t.Errorf("R2: two answers share memory: %v", b)
	}
}

// TestSameAgain: the same text tells the same, whatever was told in between.
func TestSameAgain(t *testing.T) {
	texts := []string{"", "a 1.5", "$", "a\n  .5", strings.Repeat("a", 21), strings.Repeat("a", 4001), "1-2 # c\n\n b_ -0.5x", "a"}
	for _, s := range texts {
		got, place, e := lex.Tokens(s)
		for _, other := range texts {
			lex.Tokens(other)
			if again, p, n := lex.Tokens(s); !slices.Equal(again, got) || p != place || n != e {
				t.Errorf("R4: %q is told otherwise behind %q: %v, %v, %d", short(s), short(other), again, p, n)
			}
		}
	}
}

// FuzzTokens: nothing panics, and each text is read as the document says.
func FuzzTokens(f *testing.F) {
	for _, s := range []string{"", "a 1.5", "1-2#\n-", "a\r\n", "\xff", "é", "# \x00\n_", strings.Repeat("a", 21), "-0.0 1.2.3"} {
		f.Add(s)
	}
	f.Fuzz(func(t *testing.T, s string) {
		check(t, s)
	})
}

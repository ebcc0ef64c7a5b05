package lens_test

import (
	"math"
	"math/big"
	"reflect"
	"regexp"
	"slices"
	"strconv"
	"strings"
	"testing"
	"unsafe"

	"meniscus/api"
	"meniscus/dec"
	"meniscus/lens"
	"meniscus/lex"
)

func d(c, scale int) api.Dec {
	return api.Dec{C: c, Scale: scale}
}

func at(line, column int) complex128 {
	return complex(float64(line), float64(column))
}

// glasses are bk and f-2, whose numbers nobody asks for.
func glasses() []api.Glass {
	return []api.Glass{{Name: "bk", B: [3]api.Dec{d(1, 0), d(2, 0), d(3, 0)}}, {Name: "f-2"}}
}

// plane is the face of the line `face 0 5 1 air`.
func plane() api.Face {
	return api.Face{Aperture: d(5, 0), Thick: d(1, 0), Glass: "air"}
}

// hole is the stop of the line `stop 2 3`.
func hole() api.Face {
	return api.Face{Stop: true, Aperture: d(2, 0), Thick: d(3, 0)}
}

// of is a lens `a`, 1 far, of those faces.
func of(faces ...api.Face) api.Lens {
	return api.Lens{Name: "a", Back: d(1, 0), Faces: faces}
}

const (
	head       = "lens a 1\n"
	planeLine  = "face 0 5 1 air\n"
	holeLine   = "stop 2 3\n"
	tripletOut = "lens triplet 40.5\nface -50 10 2 bk\nstop 9 0\nface 30.5 10.5 0 air conic -1 a4 0.5 a6 -0.25\nface 0 0.000001 3 f-2 a6 1\n"
)

// triplet is the lens of tripletOut.
func triplet() api.Lens {
	return api.Lens{Name: "triplet", Back: d(405, 1), Faces: []api.Face{
		{Radius: d(-50, 0), Aperture: d(10, 0), Thick: d(2, 0), Glass: "bk"},
		{Stop: true, Aperture: d(9, 0)},
		{Radius: d(305, 1), Aperture: d(105, 1), Conic: d(-1, 0), A4: d(5, 1), A6: d(-25, 2), Glass: "air"},
		{Aperture: d(1, 6), Thick: d(3, 0), A6: d(1, 0), Glass: "f-2"},
	}}
}

// short is the beginning of s, to be told of.
func short(s string) string {
	return s[:min(len(s), 200)]
}

// tells holds the lens of s against want; its error is OK, and its place 0.
func tells(t *testing.T, promise, s string, g []api.Glass, want api.Lens) {
	t.Helper()
	got, place, e := lens.Read(s, g)
	if e != api.OK || place != 0 || !reflect.DeepEqual(got, want) {
		t.Errorf("%s: Read(%q): %+v, %v, %d, not %+v", promise, short(s), got, place, e, want)
	}
}

// refuses holds the error of s, and its place, against e and place; there is no lens beside it.
func refuses(t *testing.T, s string, g []api.Glass, place complex128, e api.Errno) {
	t.Helper()
	if got, p, n := lens.Read(s, g); !reflect.DeepEqual(got, api.Lens{}) || p != place || n != e {
		t.Errorf("12.1: Read(%q): %+v, %v, %d, not %d at %v", short(s), got, p, n, e, place)
	}
}

// TestExample: the example of chapter 12.
func TestExample(t *testing.T) {
	s := "lens a 40\nface 0 5 1 air"
	got, place, e := lens.Read(s, nil)
	if len(got.Faces) != 1 || place != 0 || e != api.OK {
		t.Errorf("12.1: %+v, %v, %d", got, place, e)
	}
	tells(t, "12.1", s, nil, api.Lens{Name: "a", Back: d(40, 0), Faces: []api.Face{plane()}})
}

// TestRead: the parts of a lens, each from its own token; each number's size is another one.
func TestRead(t *testing.T) {
	tells(t, "12.1", tripletOut, glasses(), triplet())
	tells(t, "12.1", "lens all 1\nface 9 2 3 bk conic 4 a4 5 a6 6\nstop 7 8\nface -10 10 0 f-2\n", glasses(), api.Lens{Name: "all", Back: d(1, 0), Faces: []api.Face{
		{Radius: d(9, 0), Aperture: d(2, 0), Thick: d(3, 0), Glass: "bk", Conic: d(4, 0), A4: d(5, 0), A6: d(6, 0)},
		{Stop: true, Aperture: d(7, 0), Thick: d(8, 0)},
		{Radius: d(-10, 0), Aperture: d(10, 0), Glass: "f-2"},
	}})
	tells(t, "12.1", head+"face 0 5 1 air", nil, of(plane()))
	tells(t, "12.1", head+planeLine+planeLine+holeLine+planeLine, nil, of(plane(), plane(), hole(), plane()))
	tells(t, "12.1", head+holeLine+planeLine, nil, of(hole(), plane()))
	tells(t, "12.1", head+planeLine+holeLine, nil, of(plane(), hole()))
	tells(t, "12.1", "lens a 01.00\nface 00.0 005.000 1.0 air conic -0.50 a4 00.000001 a6 99999.999999", nil, of(api.Face{Aperture: d(5, 0), Thick: d(1, 0), Glass: "air", Conic: d(-5, 1), A4: d(1, 6), A6: d(99999999999, 6)}))
}

// TestTerms: each of them, some or none, in this order.
func TestTerms(t *testing.T) {
	for k := range 8 {
		s, f := head+"face 0 5 1 air", plane()
		if k&1 != 0 {
			s, f.Conic = s+" conic -1.5", d(-15, 1)
		}
		if k&2 != 0 {
			s, f.A4 = s+" a4 0.25", d(25, 2)
		}
		if k&4 != 0 {
			s, f.A6 = s+" a6 -7", d(-7, 0)
		}
		tells(t, "12.1", s, nil, of(f))
		tells(t, "12.1", s+"\n"+holeLine+planeLine, nil, of(f, hole(), plane()))
		if got := lens.Print(of(f)); got != s+"\n" {
			t.Errorf("12.1: Print is %q, not %q", got, s+"\n")
		}
	}
}

// TestBlankLines: empty lines, blanks, tabs and remarks change nothing.
func TestBlankLines(t *testing.T) {
	for _, s := range []string{
		head + planeLine + holeLine, "lens a 1\nface 0 5 1 air\nstop 2 3", "\n\nlens a 1\n\n\nface 0 5 1 air\n\nstop 2 3\n\n\n", "# a lens\n\t lens\ta  1\t# stop 5 5\n #\n  face\t\t0 5  1 air#conic 2\n \t\n\tstop 2   3 \t # é$\n#", "lens a 1 \nface 0 5 1 air \nstop 2 3 ", "lens a 1.0\nface 0.0 5.0 1.0 air\nstop 2.0 3.0",
	} {
		tells(t, "12.1", s, nil, of(plane(), hole()))
	}
	tells(t, "12.1", "# a\n\n"+strings.ReplaceAll(strings.ReplaceAll(tripletOut, " ", " \t"), "\n", " # z\n\n"), glasses(), triplet())
	refuses(t, "lens a # 1\nface 0 5 1 air", nil, at(1, 11), api.ErrForm)
	refuses(t, "lens a\n1\nface 0 5 1 air", nil, at(1, 7), api.ErrForm)
	refuses(t, "lens a 1 face 0 5 1 air", nil, at(1, 10), api.ErrForm)
	refuses(t, head+"face 0 5\n1 air", nil, at(2, 9), api.ErrForm)
	refuses(t, head+"face 0 5 1 air\nconic 1", nil, at(3, 1), api.ErrForm)
	refuses(t, head+"face 0 5 1 air # conic 0\nstop 1 # 2", nil, at(3, 11), api.ErrForm)
}

// TestNames: each Word is one of a lens, of a glass too.
func TestNames(t *testing.T) {
	for _, name := range []string{"a", "Z", "lens", "face", "stop", "conic", "a4", "a6", "glass", "air", "Air", "a-_9", "N-SF11", "x-", strings.Repeat("a", 20), "z" + strings.Repeat("9", 19)} {
		l := of(plane(), hole())
		l.Name, l.Faces[0].Glass = name, name
		g := []api.Glass{{Name: "other"}, {Name: name}}
		tells(t, "12.1", "lens "+name+" 1\nface 0 5 1 "+name+"\nstop 2 3\n", g, l)
		l.Faces[0].Conic, l.Faces[0].A6 = d(2, 0), d(3, 0)
		tells(t, "12.1", "lens "+name+" 1\nface 0 5 1 "+name+" conic 2 a6 3\nstop 2 3\n", g, l)
		if !lens.Right(l, g) {
			t.Errorf("12.1: Right of %q is false", name)
		}
	}
	refuses(t, "lens "+strings.Repeat("a", 21)+" 1", nil, at(1, 6), api.ErrBig)
}

// TestNoLine: ErrForm at 0 of no line at all.
func TestNoLine(t *testing.T) {
	for _, s := range []string{"", "\n", "\n\n \n", " ", "\t", "#", "# lens a 1", "# lens a 1\n# face 0 5 1 air", strings.Repeat(" ", api.MaxText), strings.Repeat("\n", api.MaxText)} {
		refuses(t, s, glasses(), 0, api.ErrForm)
	}
}

// TestNoFace: ErrArg at 0 of no line behind the first, and of stops alone; at the end.
func TestNoFace(t *testing.T) {
	for n := range 13 {
		stops := strings.Repeat(holeLine, n)
		refuses(t, head+stops, glasses(), 0, api.ErrArg)
		refuses(t, "\n# a\n"+head+"\n"+stops+"# face 0 5 1 air", glasses(), 0, api.ErrArg)
		// An error of a line behind the stops is told ahead of it.
		refuses(t, head+stops+"stops", glasses(), at(n+2, 1), api.ErrForm)
	}
	refuses(t, "lens a 1", nil, 0, api.ErrArg)
	refuses(t, "lens a 0", nil, at(1, 8), api.ErrArg)
}

// TestLexErrors: lex's error, with its place, whatever the lines ahead of it, and its own, would have.
func TestLexErrors(t *testing.T) {
	long := strings.Repeat("w", 21)
	for _, ahead := range []string{"", head, head + planeLine, "face\n", "lens a 0\n", "lens\n", head + "stop 0 0\n", head + "face 5 6 1 air\n", head + "face 0 5 1 none\n", head + strings.Repeat(planeLine, 13), "\n\n# $\n", "7\n"} {
		below := strings.Count(ahead, "\n")
		for _, c := range []struct {
			line   string
			column int
			e      api.Errno
		}{
			{"$", 1, api.ErrForm}, {"lens a $", 8, api.ErrForm}, {"lens 7 $", 8, api.ErrForm}, {"face 0 0 -1 $", 13, api.ErrForm}, {"face 0 5 1 none é", 17, api.ErrForm}, {"stop 1 -0", 8, api.ErrForm}, {"lens a 123456", 8, api.ErrForm}, {"face 0 5 1 air conic .5", 22, api.ErrForm}, {"lens _a 1", 6, api.ErrForm}, {"stop 1.2.3 0", 6, api.ErrForm}, {"lens a -", 8, api.ErrForm}, {"lens a 1\r", 9, api.ErrForm},
			{"lens " + long, 6, api.ErrBig}, {"lens 0 " + long + " $", 8, api.ErrBig}, {long, 1, api.ErrBig}, {"face 0 5 1 " + long, 12, api.ErrBig}, {"stop 0 -1 " + long, 11, api.ErrBig},
		} {
			for _, behind := range []string{"", "\n", "\nlens a 0", "\n$", "\n" + long, "\nface 0 5 1 air"} {
				refuses(t, ahead+c.line+behind, glasses(), at(below+1, c.column), c.e)
			}
		}
	}
	for _, s := range []string{strings.Repeat(" ", api.MaxText+1), strings.Repeat("$", api.MaxText+1), "face\n" + strings.Repeat("#", api.MaxText), "$" + strings.Repeat("\n", api.MaxText), head + planeLine + strings.Repeat("a", api.MaxText)} {
		refuses(t, s, glasses(), 0, api.ErrBig)
	}
	tells(t, "12.1", head+planeLine+strings.Repeat("#", api.MaxText-len(head+planeLine)), nil, of(plane()))
}

// TestFirstLine: `lens`, NAME, BACK, and nothing behind; ErrForm at the first token that is another one.
func TestFirstLine(t *testing.T) {
	for _, ahead := range []string{"", "\n", "# a\n \n"} {
		below := strings.Count(ahead, "\n")
		for _, c := range []struct {
			line   string
			column int
		}{
			{"Lens a 1", 1}, {"lense a 1", 1}, {"len a 1", 1}, {"a 1", 1}, {"  7 a 1", 3}, {"1", 1}, {"face 0 5 1 air", 1}, {"stop 2 3", 1}, {"glass a 1 2 3 4 5 6", 1}, {"air", 1},
			{"lens", 5}, {" lens ", 7}, {"lens # a", 9}, {"lens 7", 6}, {"lens 1 1", 6}, {"lens 0", 6}, {"lens -1.5 a", 6},
			{"lens a", 7}, {"lens a ", 8}, {"lens a b", 8}, {"lens a b 1", 8}, {"lens a air", 8}, {"lens lens lens", 11},
			{"lens a 1 2", 10}, {"lens a 1 b", 10}, {"lens a 1 0", 10}, {"lens a 1b", 9}, {"lens a 1 lens b 2", 10}, {"lens a 1-2", 9},
		} {
			for _, behind := range []string{"", "\n", "\n" + planeLine, "\nlens a 1\n" + planeLine, "\nstop 0 0", "\n7"} {
				refuses(t, ahead+c.line+behind, glasses(), at(below+1, c.column), api.ErrForm)
			}
		}
	}
}

// TestForm: ErrForm, at the first token of a line behind the first that is another one, each of them in turn.
func TestForm(t *testing.T) {
	for _, ahead := range []string{head, head + planeLine, head + holeLine, "# a\n\n" + head + "\n" + planeLine + holeLine + "# b\n"} {
		below := strings.Count(ahead, "\n")
		for _, c := range []struct {
			line   string
			column int
		}{
			{"Face 0 5 1 air", 1}, {"faces 0 5 1 air", 1}, {"fac 0 5 1 air", 1}, {"0 5 1 air", 1}, {"  7", 3}, {"lens b 2", 1}, {"lens", 1}, {"Stop 2 3", 1}, {"stops 2 3", 1}, {"sto 2 3", 1}, {"2 3", 1}, {"air", 1}, {"conic 1", 1}, {"a4 1", 1}, {"a6 1", 1}, {"glass a 1 2 3 4 5 6", 1}, {"bk", 1},
			{"face", 5}, {" face ", 7}, {"face # 0", 9}, {"face x", 6}, {"face x 5 1 air", 6}, {"face air", 6}, {"face face 0 5 1 air", 6}, {"face conic 1", 6},
			{"face 0", 7}, {"face 0 x", 8}, {"face 0 air", 8}, {"face 7 x 1 air", 8}, {"face -7", 8}, {"face 0 conic 1", 8},
			{"face 0 5", 9}, {"face 0 5 x", 10}, {"face 0 5 air", 10}, {"face 0 5 a4 1 air", 10}, {"face -7 5 air", 11},
			{"face 0 5 1", 11}, {"face 0 5 1 2", 12}, {"face 0 5 1 0 air", 12}, {"face 0 5 1 -2 bk", 12}, {"face 0 5 0", 11},
			{"face 0 5 1 air b", 16}, {"face 0 5 1 air bk", 16}, {"face 0 5 1 air 1", 16}, {"face 0 5 1 air 0", 16}, {"face 0 5 1 air air", 16}, {"face 0 5 1 air face", 16}, {"face 0 5 1 air stop 2 3", 16}, {"face 0 5 1 air Conic 1", 16}, {"face 0 5 1 air conics 1", 16}, {"face 0 5 1 air a5 1", 16}, {"face 0 5 1 air A4 1", 16}, {"face 0 5 1 bk a44 1", 15}, {"face 0 5 1 bk a60 1", 15}, {"face 0 5 1 air a 4", 16}, {"face 0 5 1 air k 1", 16},
			{"face 0 5 1 air conic", 21}, {"face 0 5 1 air conic x", 22}, {"face 0 5 1 air conic conic 1", 22}, {"face 0 5 1 air conic a4 1", 22}, {"face 0 5 1 air conic air", 22},
			{"face 0 5 1 air a4", 18}, {"face 0 5 1 air a4 x", 19}, {"face 0 5 1 air a4 a6 1", 19}, {"face 0 5 1 air a4 a4", 19},
			{"face 0 5 1 air a6", 18}, {"face 0 5 1 air a6 x", 19}, {"face 0 5 1 air a6 conic 1", 19},
			{"face 0 5 1 air conic 1 a4", 26}, {"face 0 5 1 air conic 1 a6", 26}, {"face 0 5 1 air a4 1 a6", 23}, {"face 0 5 1 air a4 1 a6 bk", 24},
			{"face 0 5 1 air conic 1 2", 24}, {"face 0 5 1 air conic 1 x", 24}, {"face 0 5 1 air conic 1 air", 24}, {"face 0 5 1 air a4 1 2", 21}, {"face 0 5 1 air a4 1 x", 21}, {"face 0 5 1 air a6 1 2", 21}, {"face 0 5 1 air a6 1 x", 21}, {"face 0 5 1 air conic 1 a4 1 a6 1 2", 34}, {"face 0 5 1 air conic 1 a4 1 a6 1 x", 34}, {"face 0 5 1 air a6 1 face 0 5 1 air", 21},
			// Not in another order, and none of them twice.
			{"face 0 5 1 air a4 1 conic 1", 21}, {"face 0 5 1 air a6 1 conic 1", 21}, {"face 0 5 1 air a6 1 a4 1", 21}, {"face 0 5 1 air a6 1 a4 1 conic 1", 21}, {"face 0 5 1 air conic 1 a6 1 a4 1", 29}, {"face 0 5 1 air a4 1 a6 1 conic 1", 26},
			{"face 0 5 1 air conic 1 conic 1", 24}, {"face 0 5 1 air a4 1 a4 1", 21}, {"face 0 5 1 air a6 1 a6 1", 21}, {"face 0 5 1 air conic 1 a4 1 conic 1", 29}, {"face 0 5 1 air conic 1 a4 1 a6 1 conic 1", 34}, {"face 0 5 1 air a4 1 a6 1 a4 1", 26}, {"face 0 5 1 air conic 1 a4 1 a4 1", 29},
			{"stop", 5}, {"stop # 2", 9}, {"stop x", 6}, {"stop air 2 3", 6}, {"stop stop 2 3", 6},
			{"stop 2", 7}, {"stop 2 x", 8}, {"stop 2 air", 8}, {"stop 2 stop", 8},
			{"stop 2 3 4", 10}, {"stop 2 3 0", 10}, {"stop 2 3 air", 10}, {"stop 2 3 x", 10}, {"stop 2 3 conic 1", 10}, {"stop 2 3 a4 1", 10}, {"stop 2 3 a6 1", 10}, {"stop 2 3 stop 2 3", 10}, {"stop 0.5 0 1 air", 12},
		} {
			for _, behind := range []string{"", "\n", "\n\n" + planeLine, "\nlens\n", "\nstop 0 -1", "\nface 0 5 1 none"} {
				refuses(t, ahead+c.line+behind, glasses(), at(below+1, c.column), api.ErrForm)
			}
		}
	}
}

// TestBig: MaxFaces faces and stops are told; ErrBig, at its first token, of a line past them, whatever stands behind.
func TestBig(t *testing.T) {
	if api.MaxFaces != 12 {
		t.Fatalf("12.1: MaxFaces is %d", api.MaxFaces)
	}
	for n := 1; n <= 14; n++ {
		for _, of := range [][2]string{{planeLine, planeLine}, {holeLine, holeLine}, {planeLine, holeLine}, {holeLine, planeLine}} {
			s := head
			var faces []api.Face
			for k := range n {
				s += of[k%2]
				faces = append(faces, map[string]api.Face{planeLine: plane(), holeLine: hole()}[of[k%2]])
			}
			stops := !strings.Contains(s, "face")
			switch {
			case n > 12:
				refuses(t, s, nil, at(14, 1), api.ErrBig)
				refuses(t, "\n#\n"+strings.ReplaceAll(s, "\n", "\n \n\t"), nil, at(29, 2), api.ErrBig)
			case stops:
				refuses(t, s, nil, 0, api.ErrArg)
			default:
				tells(t, "12.1", s, nil, api.Lens{Name: "a", Back: d(1, 0), Faces: faces})
			}
		}
	}
	twelve := head + strings.Repeat(planeLine, 6) + strings.Repeat(holeLine, 6)
	stops := head + strings.Repeat(holeLine, 12)
	for _, full := range []string{twelve, stops} {
		for _, line := range []string{"face", "stop", "face 0 5 1 air", "stop 2 3", "face x", "stop x", "face 0 -1", "stop 0", "face 5 6", "face 0 5 1 none", "face 0 5 1 air conic 0", "stop 2 3 4", "face\nlens", "stop 2 3\n7"} {
			refuses(t, full+line, nil, at(14, 1), api.ErrBig)
			refuses(t, full+"\n  "+line, nil, at(15, 3), api.ErrBig)
		}
		for _, line := range []string{"faces", "stops", "lens", "lens b 1", "Face 0 5 1 air", "conic 1", "7", "air", "0 5 1 air", "fac\nface", "sto\nstop 2 3"} {
			refuses(t, full+line, nil, at(14, 1), api.ErrForm)
		}
	}
}

// TestGlass: ErrGlass, at its name, of one that is neither `air` nor in g.
func TestGlass(t *testing.T) {
	for _, g := range [][]api.Glass{nil, {}, {{Name: "bk"}}, glasses(), {{Name: "f-2"}, {Name: "Bk"}, {Name: "none-"}}, {{}}, {{Name: "air"}}, {{Name: "no ne"}, {Name: "non"}, {Name: "one"}}, {{Name: "bk"}, {Name: "bk"}}, make([]api.Glass, 100)} {
		tells(t, "12.1", head+planeLine, g, of(plane()))
		refuses(t, head+"face 0 5 1 none", g, at(2, 12), api.ErrGlass)
		refuses(t, head+"face 0 5 1 none conic 0\nstop 0 0", g, at(2, 12), api.ErrGlass)
		refuses(t, head+"face 0 5 1 NONE", g, at(2, 12), api.ErrGlass)
		refuses(t, head+"face 0 5 1 Air", g, at(2, 12), api.ErrGlass)
		refuses(t, head+"face 0 5 1 airs", g, at(2, 12), api.ErrGlass)
		refuses(t, head+"face 0 5 1 a", g, at(2, 12), api.ErrGlass)
		refuses(t, head+holeLine+"\n \tface  -5 5\t0.5   conic a4 1\n", g, at(4, 20), api.ErrGlass)
		for _, name := range []string{"bk", "f-2"} {
			f := plane()
			f.Glass = name
			s := head + planeLine + "face 0 5 1 " + name + "\n"
			if slices.ContainsFunc(g, func(one api.Glass) bool { return one.Name == name }) {
				tells(t, "12.1", s, g, of(plane(), f))
			} else {
				refuses(t, s, g, at(3, 12), api.ErrGlass)
			}
		}
	}
}

// rat is the number of a decimal's text.
func rat(text string) *big.Rat {
	x, ok := new(big.Rat).SetString(text)
	if !ok {
		panic(text)
	}
	return x
}

// someTexts are numbers of many sizes and scales, from the least to the greatest.
func someTexts() []string {
	return []string{"-99999.999999", "-99999", "-7.5", "-5.000001", "-5", "-4.999999", "-1", "-0.05", "-0.000001", "0", "0.0", "0.000001", "0.05", "0.049999", "1", "1.00", "4.999999", "5", "5.0", "5.000001", "5.1", "7.5", "50", "99999", "99999.999999"}
}

// TestNumbers: ErrArg, at the number, of each that may not be; each other one is told.
func TestNumbers(t *testing.T) {
	for _, text := range someTexts() {
		x, _ := dec.Read(text)
		sign := rat(text).Sign()
		for _, c := range []struct {
			ahead, behind string
			ok            bool
			want          api.Lens
		}{
			{"lens a ", "\nface 0 5 1 air", sign > 0, api.Lens{Name: "a", Back: x, Faces: []api.Face{plane()}}},
			{head + "face 0 ", " 1 air", sign > 0, of(api.Face{Aperture: x, Thick: d(1, 0), Glass: "air"})},
			{head + planeLine + "stop ", " 3", sign > 0, of(plane(), api.Face{Stop: true, Aperture: x, Thick: d(3, 0)})},
			{head + "face 0 5 ", " air", sign >= 0, of(api.Face{Aperture: d(5, 0), Thick: x, Glass: "air"})},
			{head + planeLine + "stop 2 ", "\n", sign >= 0, of(plane(), api.Face{Stop: true, Aperture: d(2, 0), Thick: x})},
			{head + "face ", " 0.000001 1 air", true, of(api.Face{Radius: x, Aperture: d(1, 6), Thick: d(1, 0), Glass: "air"})},
			{head + "face 0 5 1 air conic ", "", sign != 0, of(api.Face{Aperture: d(5, 0), Thick: d(1, 0), Glass: "air", Conic: x})},
			{head + "face 0 5 1 air a4 ", " # z", sign != 0, of(api.Face{Aperture: d(5, 0), Thick: d(1, 0), Glass: "air", A4: x})},
			{head + "face 0 5 1 air a6 ", "\n\n", sign != 0, of(api.Face{Aperture: d(5, 0), Thick: d(1, 0), Glass: "air", A6: x})},
			{head + "face 0 5 1 air conic 1 a4 ", " a6 2", sign != 0, of(api.Face{Aperture: d(5, 0), Thick: d(1, 0), Glass: "air", Conic: d(1, 0), A4: x, A6: d(2, 0)})},
		} {
			s := c.ahead + text + c.behind
			if c.ok {
				tells(t, "12.1", s, nil, c.want)
				continue
			}
			place := at(strings.Count(c.ahead, "\n")+1, len(c.ahead)-strings.LastIndex(c.ahead, "\n"))
			refuses(t, s, nil, place, api.ErrArg)
			// What stands behind it in its line, and behind that, tells nothing then.
			refuses(t, c.ahead+text+" lens 0", nil, place, api.ErrArg)
			refuses(t, c.ahead+text+"\n7", nil, place, api.ErrArg)
		}
	}
}

// TestRadius: ErrArg, at the RADIUS, of one that is not 0 and whose size is below the APERTURE; told when that is read.
func TestRadius(t *testing.T) {
	for _, radius := range someTexts() {
		for _, aperture := range someTexts() {
			r, a := rat(radius), rat(aperture)
			s := head + "face " + radius + " " + aperture
			switch {
			case a.Sign() <= 0:
				refuses(t, s+" 1 air", nil, at(2, 7+len(radius)), api.ErrArg)
			case r.Sign() != 0 && new(big.Rat).Abs(r).Cmp(a) < 0:
				refuses(t, s+" 1 air", nil, at(2, 6), api.ErrArg)
				refuses(t, s+" -1 none", nil, at(2, 6), api.ErrArg)
				refuses(t, s+" none", nil, at(2, 6), api.ErrArg)
				refuses(t, s, nil, at(2, 6), api.ErrArg)
			default:
				x, _ := dec.Read(radius)
				y, _ := dec.Read(aperture)
				tells(t, "12.1", s+" 1 air", nil, of(api.Face{Radius: x, Aperture: y, Thick: d(1, 0), Glass: "air"}))
				refuses(t, s+" -1 none", nil, at(2, 8+len(radius+aperture)), api.ErrArg)
			}
		}
		refuses(t, head+"face "+radius+" air", nil, at(2, 7+len(radius)), api.ErrForm)
		refuses(t, head+"face "+radius, nil, at(2, 6+len(radius)), api.ErrForm)
	}
	refuses(t, head+" \tface  -0.5\t0.50001 x", nil, at(2, 9), api.ErrArg)
}

// TestFirstError: token by token, line by line, the first is told.
func TestFirstError(t *testing.T) {
	twelve := head + strings.Repeat(planeLine, 12)
	for _, c := range []struct {
		s     string
		place complex128
		e     api.Errno
	}{
		{"lens a 0 x", at(1, 8), api.ErrArg}, {"lens a -1\nlens", at(1, 8), api.ErrArg}, {"lens 0 0", at(1, 6), api.ErrForm}, {"lens a 1 0\nface 0 0", at(1, 10), api.ErrForm}, {"face a 0", at(1, 1), api.ErrForm},
		{head + "face 5 6 x", at(2, 6), api.ErrArg}, {head + "face 5 -6 x", at(2, 8), api.ErrArg}, {head + "face -5 0", at(2, 9), api.ErrArg}, {head + "face 5 x", at(2, 8), api.ErrForm}, {head + "face 5 5 -1 none", at(2, 10), api.ErrArg}, {head + "face 5 5 x none", at(2, 10), api.ErrForm}, {head + "face 5 5 1 none conic 0", at(2, 12), api.ErrGlass}, {head + "face 5 5 1 none x", at(2, 12), api.ErrGlass}, {head + "face 5 5 1 7 conic 0", at(2, 12), api.ErrForm}, {head + "face 5 5 1 bk conic 0 a4 0", at(2, 21), api.ErrArg}, {head + "face 5 5 1 bk conic 0 conic 1", at(2, 21), api.ErrArg}, {head + "face 5 5 1 bk a4 0 x", at(2, 18), api.ErrArg}, {head + "face 5 5 1 bk a6 1 a4 0", at(2, 20), api.ErrForm}, {head + "face 5 5 1 bk a4 1 a6 0 7", at(2, 23), api.ErrArg},
		{head + "stop 0 -1", at(2, 6), api.ErrArg}, {head + "stop 1 -1 x", at(2, 8), api.ErrArg}, {head + "stop x -1", at(2, 6), api.ErrForm}, {head + "stop 1 1 1", at(2, 10), api.ErrForm},
		{head + "stop 1\nface 0 0 1 air", at(2, 7), api.ErrForm}, {head + "face 0 0 1 air\nstop", at(2, 8), api.ErrArg}, {head + "face 0 5 1 none\nlens", at(2, 12), api.ErrGlass}, {head + "face 0 5 1 air\nface 0 5 1 none\n7", at(3, 12), api.ErrGlass}, {head + "x\nface 0 5 1 none", at(2, 1), api.ErrForm},
		{twelve + "face 0 0 1 none\n7", at(14, 1), api.ErrBig}, {twelve + "7\nface", at(14, 1), api.ErrForm}, {head + "face 5 6 1 air\n" + strings.Repeat(planeLine, 12), at(2, 6), api.ErrArg}, {head + strings.Repeat(planeLine, 11) + "face 0 5 1 none\n" + planeLine, at(13, 12), api.ErrGlass}, {"lens a 0\n" + strings.Repeat(planeLine, 13), at(1, 8), api.ErrArg},
		{head + "stop 2 3\nstop 2", at(3, 7), api.ErrForm}, {head + "stop 2 3\nstop 2 -3", at(3, 8), api.ErrArg}, {"lens a 1 1", at(1, 10), api.ErrForm},
	} {
		refuses(t, c.s, glasses(), c.place, c.e)
		refuses(t, "# a\n\n"+c.s+"\n", glasses(), c.place+2, c.e)
	}
}

var (
	found  = regexp.MustCompile(`[A-Za-z][-A-Za-z0-9_]*|-?[0-9][0-9.]*`)
	word   = regexp.MustCompile(`\A[A-Za-z]`)
	amount = regexp.MustCompile(`\A[-0-9]`)
	ended  = regexp.MustCompile(`\A\z`)
)

// way is one that a line may go on, by a token of that form, to the place of which the letter tells.
type way struct {
	form *regexp.Regexp
	to   byte
}

// ways are all of them: from L the first line, from F the others, until E.
var ways = map[byte][]way{
	'L': {{regexp.MustCompile(`\Alens\z`), 'n'}}, 'n': {{word, 'b'}}, 'b': {{amount, 'e'}}, 'e': {{ended, 'E'}},
	'F': {{regexp.MustCompile(`\Aface\z`), 'r'}, {regexp.MustCompile(`\Astop\z`), 's'}},
	's': {{amount, 't'}}, 't': {{amount, 'e'}},
	'r': {{amount, 'a'}}, 'a': {{amount, 'd'}}, 'd': {{amount, 'g'}}, 'g': {{word, '3'}},
	'3': {{regexp.MustCompile(`\Aconic\z`), 'k'}, {regexp.MustCompile(`\Aa4\z`), '4'}, {regexp.MustCompile(`\Aa6\z`), '6'}, {ended, 'E'}}, 'k': {{amount, '2'}},
	'2': {{regexp.MustCompile(`\Aa4\z`), '4'}, {regexp.MustCompile(`\Aa6\z`), '6'}, {ended, 'E'}}, '4': {{amount, '1'}},
	'1': {{regexp.MustCompile(`\Aa6\z`), '6'}, {ended, 'E'}}, '6': {{amount, 'e'}},
}

// wrong is the error of a token at that place of a line whose radius is so, lines ahead of it; back: at the radius.
func wrong(from byte, text string, radius *big.Rat, lines int, g []api.Glass) (e api.Errno, back bool) {
	switch from {
	case 'F':
		if lines > 12 {
			return api.ErrBig, false
		}
	case 'b', 's', 'a':
		if rat(text).Sign() <= 0 {
			return api.ErrArg, false
		}
		if from == 'a' && radius.Sign() != 0 && new(big.Rat).Abs(radius).Cmp(rat(text)) < 0 {
			return api.ErrArg, true
		}
	case 't', 'd':
		if rat(text).Sign() < 0 {
			return api.ErrArg, false
		}
	case 'k', '4', '6':
		if rat(text).Sign() == 0 {
			return api.ErrArg, false
		}
	case 'g':
		if text != "air" && !slices.ContainsFunc(g, func(one api.Glass) bool { return one.Name == text }) {
			return api.ErrGlass, false
		}
	}
	return api.OK, false
}

// put lays a token's text to where it belongs, in l or in its last face.
func put(l *api.Lens, from byte, text string) {
	x, _ := dec.Read(text)
	var f *api.Face
	if len(l.Faces) > 0 {
		f = &l.Faces[len(l.Faces)-1]
	}
	switch from {
	case 'n':
		l.Name = text
	case 'b':
		l.Back = x
	case 'F':
		l.Faces = append(l.Faces, api.Face{Stop: text == "stop"})
	case 's', 'a':
		f.Aperture = x
	case 't', 'd':
		f.Thick = x
	case 'r':
		f.Radius = x
	case 'g':
		f.Glass = text
	case 'k':
		f.Conic = x
	case '4':
		f.A4 = x
	case '6':
		f.A6 = x
	}
}

// meantLine is what the document says of one line, body being what stands ahead of its remark; the column of the error, if there is one.
func meantLine(l *api.Lens, line, body string, from byte, lines int, g []api.Glass) (int, api.Errno) {
	var radius *big.Rat
	column := 0
	for _, span := range append(found.FindAllStringIndex(body, -1), []int{len(line), len(line)}) {
		text := line[span[0]:span[1]]
		k := slices.IndexFunc(ways[from], func(w way) bool { return w.form.MatchString(text) })
		if k < 0 {
			return span[0] + 1, api.ErrForm
		}
		e, back := wrong(from, text, radius, lines, g)
		if back {
			return column, e
		}
		if e != api.OK {
			return span[0] + 1, e
		}
		if from == 'r' {
			radius, column = rat(text), span[0]+1
		}
		put(l, from, text)
		from = ways[from][k].to
	}
	return 0, api.OK
}

// meant is what the document says of s, line by line.
func meant(s string, g []api.Glass) (api.Lens, complex128, api.Errno) {
	if _, place, e := lex.Tokens(s); e != api.OK {
		return api.Lens{}, place, e
	}
	var l api.Lens
	lines := 0
	for n, line := range strings.Split(s, "\n") {
		body, _, _ := strings.Cut(line, "#")
		if found.FindString(body) == "" {
			continue
		}
		from := byte('F')
		if lines == 0 {
			from = 'L'
		}
		if column, e := meantLine(&l, line, body, from, lines, g); e != api.OK {
			return api.Lens{}, at(n+1, column), e
		}
		lines++
	}
	if lines == 0 {
		return api.Lens{}, 0, api.ErrForm
	}
	if !slices.ContainsFunc(l.Faces, func(f api.Face) bool { return !f.Stop }) {
		return api.Lens{}, 0, api.ErrArg
	}
	return l, 0, api.OK
}

// check holds Read of s against what the document says, and what is told against Right, Print and Same.
func check(t *testing.T, s string, g []api.Glass) {
	t.Helper()
	want, place, e := meant(s, g)
	got, p, n := lens.Read(s, g)
	if !reflect.DeepEqual(got, want) || p != place || n != e {
		t.Errorf("12.1: Read(%q): %+v, %v, %d, not %+v, %v, %d", short(s), got, p, n, want, place, e)
	}
	if right := lens.Right(got, g); right != (e == api.OK) {
		t.Errorf("12.1: Read(%q) tells %+v, and Right of it is %v", short(s), got, right)
	}
	if e != api.OK {
		return
	}
	if again, _, m := lens.Read(lens.Print(got), g); m != api.OK || !reflect.DeepEqual(again, got) || !lens.Same(again, got) {
		t.Errorf("W7: Read(%q) tells %+v, and of what is printed %+v, %d", short(s), got, again, m)
	}
}

// TestAllShortTexts: each text of some tokens, alone and behind a beginning.
func TestAllShortTexts(t *testing.T) {
	var walk func(s string, of []string, n int)
	walk = func(s string, of []string, n int) {
		check(t, s, glasses())
		for k := 0; k < len(of) && n > 0; k++ {
			walk(s+of[k], of, n-1)
		}
	}
	walk("", []string{"lens ", "a ", "1 ", "0 ", "\n", "#", "face 0 5 1 air\n"}, 5)
	walk(head, []string{"lens ", "face ", "stop ", "air ", "1 ", "0 ", "-1 ", "\n"}, 4)
	walk(head+planeLine, []string{"face ", "stop ", "air ", "none ", "1 ", "-2 ", "\n"}, 5)
	walk(head+"face 1 ", []string{"2 ", "1.0 ", "0 ", "-1 ", "bk ", "conic ", "\n"}, 4)
	walk(head+"face 0 1 0 bk ", []string{"conic ", "a4 ", "a6 ", "1 ", "0 ", "\n"}, 5)
	walk(head+"face 0 1 0 bk ", []string{"conic 1 ", "a4 -1 ", "a6 0.5 ", "a6 0.0", "7 ", "conic ", "\nstop 1 1\n"}, 5)
	walk(head+strings.Repeat(planeLine, 5)+strings.Repeat(holeLine, 5), []string{planeLine, holeLine, "face ", "stop ", "1 ", "x "}, 5)
}

// TestAllTurned: lenses one of whose tokens is another one, goes, or stands twice.
func TestAllTurned(t *testing.T) {
	all := strings.Fields(strings.ReplaceAll(tripletOut, "\n", " ; "))
	s := func(tokens []string) string {
		return strings.ReplaceAll(strings.Join(tokens, " "), ";", "\n")
	}
	for k := range all {
		for _, put := range []string{"", "lens", "face", "stop", "a", "air", "bk", "none", "conic", "a4", "a6", "7", "0", "0.00", "-7.5", "99999", "0.000001", "-0.000001", "b b", "7 7", "$", "#", ";", "-0", ";face 0 5 1 air;", ";stop 2 3;", "stop 2 3;", strings.Repeat("a", 20), strings.Repeat("a", 21)} {
			turned := slices.Clone(all)
			turned[k] = put
			check(t, s(turned), glasses())
			check(t, s(slices.Insert(slices.Clone(all), k, put)), glasses())
			for _, g := range [][]api.Glass{nil, {{Name: "bk"}}, {{Name: "f-2"}}} {
				check(t, s(turned), g)
			}
		}
		for n := k; n < len(all); n++ {
			swapped := slices.Clone(all)
			swapped[k], swapped[n] = swapped[n], swapped[k]
			check(t, s(swapped), glasses())
		}
	}
	for n := range len(tripletOut) {
		check(t, tripletOut[:n], glasses())
		check(t, tripletOut[n:], glasses())
	}
}

// numbers are right decimals that a text tells, and ones that none tells: too great, not right.
func numbers() (told, other []api.Dec) {
	for _, c := range []int{0, 1, 9, 15, 101, 65537, 99999, 1234567, 12345678901, 99999999999} {
		for scale := range 7 {
			if scale == 0 && c <= 99999 || scale > 0 && c%10 != 0 && c < int(math.Pow10(scale+5)) {
				told = append(told, d(c, scale), d(-c, scale))
			}
		}
	}
	for _, c := range []int{100000, 123456, 99999999999, 100000000000, 100000000001, math.MaxInt, math.MinInt, math.MinInt + 1} {
		other = append(other, d(c, 0))
		if c > 0 {
			other = append(other, d(-c, 0))
		}
	}
	other = append(other, d(1000001, 1), d(-1000001, 1), d(99999999999, 5), d(10000000001, 5), d(100000000000, 6), d(1, -1), d(1, 7), d(0, 1), d(0, 6), d(0, -1), d(0, 7), d(10, 1), d(50, 1), d(-150, 2), d(5000000, 6), d(1, math.MaxInt), d(1, math.MinInt), d(math.MinInt, math.MinInt), d(math.MaxInt, math.MaxInt))
	return told, other
}

// slots are the numbers of a lens: Back, and those of its first face, a plane, its last, a curved one, and its stop.
func slots(l *api.Lens) []*api.Dec {
	l.Name, l.Back, l.Faces = "a", d(1, 0), []api.Face{plane(), hole(), {Radius: d(-99999999999, 6), Aperture: d(1, 6), Glass: "bk"}}
	first, stop, last := &l.Faces[0], &l.Faces[1], &l.Faces[2]
	return []*api.Dec{&l.Back, &first.Aperture, &last.Aperture, &stop.Aperture, &first.Thick, &last.Thick, &stop.Thick, &last.Radius, &last.Conic, &last.A4, &last.A6, &first.Conic, &first.A4, &first.A6, &first.Radius, &stop.Radius, &stop.Conic, &stop.A4, &stop.A6}
}

// may tells whether slot k may be x, a number that a text tells.
func may(k int, x api.Dec) bool {
	switch {
	case k < 4:
		return x.C > 0
	case k < 7:
		return x.C >= 0
	case k == 14:
		return x.C == 0 || new(big.Rat).SetFrac64(int64(max(x.C, -x.C)), int64(math.Pow10(x.Scale))).Cmp(rat("5")) >= 0
	case k > 14:
		return x.C == 0
	}
	return true
}

// TestRight: of each lens that Read tells with g; W7: and what is printed of it is read the same.
func TestRight(t *testing.T) {
	told, _ := numbers()
	rights := 0
	for _, x := range told {
		var l api.Lens
		for k := range slots(&l) {
			*slots(&l)[k] = x
			if k < 15 && may(k, x) {
				rights++
				if !lens.Right(l, glasses()) {
					t.Errorf("12.1: Right of number %d as %v is false", k, x)
				}
				tells(t, "W7", lens.Print(l), glasses(), l)
			} else if !may(k, x) && (lens.Right(l, glasses()) || lens.Print(l) != "") {
				t.Errorf("12.1: Right of number %d as %v is true, or something printed: %q", k, x, lens.Print(l))
			}
		}
	}
	if rights < 500 {
		t.Errorf("12.1: %d right lenses alone", rights)
	}
	if !lens.Right(triplet(), glasses()) || !lens.Right(of(plane()), nil) || !lens.Right(of(plane()), []api.Glass{}) || !lens.Right(of(plane(), hole()), []api.Glass{{}}) || !lens.Right(of(hole(), plane()), glasses()) {
		t.Error("12.1: Right of right ones is false")
	}
	for n := range 12 {
		l := of(append(slices.Repeat([]api.Face{hole()}, n), plane())...)
		if !lens.Right(l, nil) || !lens.Right(of(slices.Repeat([]api.Face{plane()}, n+1)...), nil) {
			t.Errorf("12.1: Right of %d faces is false", n+1)
		}
		tells(t, "W7", lens.Print(l), nil, l)
	}
}

// badNames are names that are no Words, or too long.
func badNames() []string {
	return []string{"", " ", "1", "7a", "-a", "_a", "a b", "a ", " a", "a\t", "a\n", "\na", "a\nb", "a#", "a#b", "#", "#a", "a.", "a.b", "a;b", "é", "aé", "a\x00", "a\xff", "\xff", "a\r", "-1", "1.5", "\u212a", strings.Repeat("a", 21), strings.Repeat("a", 5000), strings.Repeat(" ", 5000), "a" + strings.Repeat(" ", 3000), "a 1\nface 0 5 1 air\n#", "air conic 1", "air\nstop 2 3", "air #", "a 1\nlens a"}
}

// wrongs are lenses that Read tells with no glasses whatever.
func wrongs() []api.Lens {
	var all []api.Lens
	for _, name := range badNames() {
		l := of(plane(), hole())
		l.Name = name
		all = append(all, l)
		l = of(plane(), hole(), plane())
		l.Faces[0].Glass = name
		all = append(all, l)
		l = of(plane(), hole(), plane())
		l.Faces[2].Glass = name
		all = append(all, l)
	}
	_, other := numbers()
	for _, x := range other {
		for k := range 19 {
			var l api.Lens
			*slots(&l)[k] = x
			all = append(all, l)
		}
	}
	for _, glass := range []string{"air", "bk", "a", " "} {
		f := hole()
		f.Glass = glass
		all = append(all, of(plane(), f), of(f, plane()))
	}
	for n := 13; n < 20; n++ {
		all = append(all, of(slices.Repeat([]api.Face{plane()}, n)...), of(append(slices.Repeat([]api.Face{hole()}, n-1), plane())...))
	}
	for n := range 14 {
		all = append(all, of(slices.Repeat([]api.Face{hole()}, n)...))
	}
	narrow := func(radius, aperture api.Dec) api.Lens {
		return of(plane(), api.Face{Radius: radius, Aperture: aperture, Glass: "air"})
	}
	return append(all, api.Lens{}, api.Lens{Name: "a"}, api.Lens{Name: "a", Back: d(1, 0), Faces: []api.Face{}}, api.Lens{Name: "a", Faces: []api.Face{plane()}}, api.Lens{Back: d(1, 0), Faces: []api.Face{plane()}}, of(api.Face{}), of(api.Face{Stop: true}), of(plane(), api.Face{Stop: true}),
		narrow(d(5, 0), d(6, 0)), narrow(d(-5, 0), d(6, 0)), narrow(d(5, 0), d(50001, 4)), narrow(d(-49, 1), d(5, 0)), narrow(d(1, 6), d(2, 6)))
}

// TestWrong: of no other lens; nothing is printed of it, whatever the glasses.
func TestWrong(t *testing.T) {
	g := append(glasses(), api.Glass{Name: "air"}, api.Glass{})
	for _, name := range badNames() {
		g = append(g, api.Glass{Name: name})
	}
	for _, l := range wrongs() {
		if lens.Right(l, g) || lens.Right(l, glasses()) || lens.Right(l, nil) {
			t.Errorf("12.1: Right(%+v) is true", l)
		}
		if got := lens.Print(l); got != "" {
			t.Errorf("12.1: Print(%+v) is %q", l, got)
		}
	}
}

// TestOtherGlasses: Right hangs on g, Print does not.
func TestOtherGlasses(t *testing.T) {
	for _, g := range [][]api.Glass{nil, {}, glasses()[:1], glasses()[1:], {{Name: "f-2"}, {Name: "BK"}}, {{Name: "air"}}, {{}}} {
		if lens.Right(triplet(), g) {
			t.Errorf("12.1: Right with %v is true", g)
		}
		refuses(t, tripletOut, g, wantedGlass(g), api.ErrGlass)
	}
	for _, g := range [][]api.Glass{glasses(), {glasses()[1], glasses()[0]}, append(glasses(), glasses()...), {{Name: "a"}, {Name: "bk"}, {Name: ""}, {Name: "f-2"}}} {
		if !lens.Right(triplet(), g) {
			t.Errorf("12.1: Right with %v is false", g)
		}
	}
	l := triplet()
	l.Faces[0].Glass, l.Faces[3].Glass = "none", strings.Repeat("x", 20)
	if got, want := lens.Print(l), strings.NewReplacer(" bk", " none", " f-2", " "+strings.Repeat("x", 20)).Replace(tripletOut); got != want {
		t.Errorf("12.1: Print is %q, not %q", got, want)
	}
}

// wantedGlass is the place in tripletOut of the first glass that g has not.
func wantedGlass(g []api.Glass) complex128 {
	if slices.ContainsFunc(g, func(one api.Glass) bool { return one.Name == "bk" }) {
		return at(5, 19)
	}
	return at(2, 15)
}

// TestPrint: tokens with one blank between, a line feed behind each line, no term whose number is 0.
func TestPrint(t *testing.T) {
	for _, c := range []struct {
		l    api.Lens
		want string
	}{
		{triplet(), tripletOut},
		{of(plane()), head + planeLine},
		{of(hole(), plane(), hole()), head + holeLine + planeLine + holeLine},
		{api.Lens{Name: "a-_9", Back: d(99999999999, 6), Faces: []api.Face{{Radius: d(-99999999999, 6), Aperture: d(1, 6), Thick: d(99999, 0), Glass: "z", Conic: d(-1, 6), A4: d(-15, 1), A6: d(10, 0)}}}, "lens a-_9 99999.999999\nface -99999.999999 0.000001 99999 z conic -0.000001 a4 -1.5 a6 10\n"},
	} {
		if got := lens.Print(c.l); got != c.want {
			t.Errorf("12.1: Print(%+v) is %q, not %q", c.l, got, c.want)
		}
		tells(t, "W7", c.want, append(glasses(), api.Glass{Name: "z"}), c.l)
	}
	if got, _, _ := lens.Read("# a\n lens  b\t01.50 # c\n\nstop 2.0 00\nface  00 5 0.10 air a6 -1.0", nil); lens.Print(got) != "lens b 1.5\nstop 2 0\nface 0 5 0.1 air a6 -1\n" {
		t.Errorf("12.1: Print is %q", lens.Print(got))
	}
}

// TestPrintedAgain: the longest lenses, too, are read again, each with its names and numbers.
func TestPrintedAgain(t *testing.T) {
	least, greatest := d(-99999999999, 6), d(99999999999, 6)
	l := api.Lens{Name: strings.Repeat("n", 20), Back: greatest}
	var g []api.Glass
	for n := range 12 {
		name := strings.Repeat("x", 18) + strconv.Itoa(10+n)
		g = append(g, api.Glass{Name: name})
		l.Faces = append(l.Faces, api.Face{Radius: least, Aperture: greatest, Thick: greatest, Glass: name, Conic: least, A4: least, A6: least})
		if text := lens.Print(l); strings.Count(text, "\n") != n+2 {
			t.Errorf("W7: %d faces in %q", n+1, text)
		}
		tells(t, "W7", lens.Print(l), g, l)
		if !lens.Right(l, g) || lens.Right(l, g[:n]) {
			t.Errorf("12.1: Right of %d faces with their glasses", n+1)
		}
	}
}

// others are lenses that differ from triplet in one part alone.
func others() []api.Lens {
	var all []api.Lens
	put := func(turn func(l *api.Lens)) {
		l := triplet()
		turn(&l)
		all = append(all, l)
	}
	for _, name := range []string{"", "Triplet", "triple", "triplets"} {
		put(func(l *api.Lens) { l.Name = name })
	}
	put(func(l *api.Lens) { l.Back.C++ })
	put(func(l *api.Lens) { l.Back.Scale++ })
	put(func(l *api.Lens) { l.Back = d(4050, 2) })
	put(func(l *api.Lens) { l.Faces = nil })
	for k := range triplet().Faces {
		put(func(l *api.Lens) { l.Faces = slices.Delete(l.Faces, k, k+1) })
		put(func(l *api.Lens) { l.Faces = l.Faces[:k] })
		put(func(l *api.Lens) { l.Faces = slices.Insert(l.Faces, k, plane()) })
		put(func(l *api.Lens) { l.Faces = slices.Insert(l.Faces, k, api.Face{}) })
		put(func(l *api.Lens) { l.Faces[k].Stop = !l.Faces[k].Stop })
		put(func(l *api.Lens) { l.Faces[k].Glass += "x" })
		put(func(l *api.Lens) { l.Faces[k].Radius.C++ })
		put(func(l *api.Lens) { l.Faces[k].Radius.Scale++ })
		put(func(l *api.Lens) { l.Faces[k].Aperture.C++ })
		put(func(l *api.Lens) { l.Faces[k].Aperture.Scale++ })
		put(func(l *api.Lens) { l.Faces[k].Thick.C++ })
		put(func(l *api.Lens) { l.Faces[k].Thick.Scale++ })
		put(func(l *api.Lens) { l.Faces[k].Conic.C++ })
		put(func(l *api.Lens) { l.Faces[k].Conic.Scale++ })
		put(func(l *api.Lens) { l.Faces[k].A4.C++ })
		put(func(l *api.Lens) { l.Faces[k].A4.Scale++ })
		put(func(l *api.Lens) { l.Faces[k].A6.C++ })
		put(func(l *api.Lens) { l.Faces[k].A6.Scale++ })
	}
	put(func(l *api.Lens) { l.Faces = append(l.Faces, plane()) })
	put(func(l *api.Lens) { l.Faces = append(l.Faces, api.Face{}) })
	put(func(l *api.Lens) { slices.Reverse(l.Faces) })
	return all
}

// TestSame: of the same lens, right or not; not of lenses that differ in one part alone.
func TestSame(t *testing.T) {
	if !lens.Same(triplet(), triplet()) || !lens.Same(api.Lens{}, api.Lens{}) || !lens.Same(of(plane()), of(plane())) || lens.Same(of(plane()), of(hole())) {
		t.Error("12.1: Same")
	}
	if a, b := (api.Lens{Name: "a"}), (api.Lens{Name: "a", Faces: []api.Face{}}); !lens.Same(a, b) || !lens.Same(b, a) {
		t.Error("R2: nil and an empty list are not the same")
	}
	for k, l := range others() {
		if lens.Same(l, triplet()) || lens.Same(triplet(), l) {
			t.Errorf("12.1: Same %d: %+v", k, l)
		}
		again := l
		again.Faces = append(make([]api.Face, 0, 30), l.Faces...)
		if !lens.Same(l, again) || !lens.Same(again, l) {
			t.Errorf("12.1: Same %d of itself: %+v", k, l)
		}
	}
	for _, l := range wrongs() {
		if !lens.Same(l, l) || lens.Same(l, triplet()) {
			t.Errorf("12.1: Same of %+v", l)
		}
	}
}

// TestNothingPanics: whatever is handed in.
func TestNothingPanics(t *testing.T) {
	ints := []int{math.MinInt, -1 << 32, -api.Most - 1, -1, 0, 1, 7, api.Most, 1 << 32, math.MaxInt}
	for _, c := range ints {
		for _, scale := range ints {
			for k := range 19 {
				var l api.Lens
				*slots(&l)[k] = d(c, scale)
				lens.Right(l, glasses())
				lens.Print(l)
				lens.Same(l, l)
			}
		}
	}
	many := make([]api.Glass, 1<<20)
	for _, name := range []string{strings.Repeat("a", 1<<20), strings.Repeat("\n", 1<<20), strings.Repeat("\xff", 1<<20), strings.Repeat("face 0 5 1 air\n", 1<<16)} {
		lens.Read(name, glasses())
		f := plane()
		f.Glass = name
		for _, l := range []api.Lens{{Name: name}, of(f), of(slices.Repeat([]api.Face{f}, 12)...), of(slices.Repeat([]api.Face{plane()}, 1<<16)...)} {
			lens.Right(l, []api.Glass{{Name: name}})
			lens.Print(l)
			lens.Same(l, l)
		}
	}
	lens.Read(tripletOut, many)
	lens.Right(triplet(), many)
}

// TestNotChanged: what is handed in stands as it was, spare room too.
func TestNotChanged(t *testing.T) {
	for _, l := range append(wrongs(), triplet(), of(plane(), hole())) {
		faces := append(slices.Clone(l.Faces), plane(), hole(), api.Face{Glass: "spare"})
		g := append(glasses(), api.Glass{Name: "spare"}, api.Glass{Name: "air"})
		keptFaces, keptG := slices.Clone(faces), slices.Clone(g)
		l.Faces = faces[:len(l.Faces)]
		name, back, n := l.Name, l.Back, len(l.Faces)
		lens.Right(l, g[:2])
		lens.Print(l)
		lens.Same(l, l)
		lens.Read(tripletOut, g[:2])
		if !slices.Equal(faces, keptFaces) || !slices.Equal(g, keptG) || l.Name != name || l.Back != back || len(l.Faces) != n {
			t.Errorf("R2: %+v was changed", l)
		}
	}
}

// TestSpareRoom: spare room of what is handed in is nothing that was handed in.
func TestSpareRoom(t *testing.T) {
	g := glasses()
	refuses(t, tripletOut, g[:1], at(5, 19), api.ErrGlass)
	if lens.Right(triplet(), g[:1]) {
		t.Error("12.1: Right with spare room alone")
	}
	l := of(hole(), plane())
	l.Faces = l.Faces[:1]
	if lens.Right(l, g) || lens.Print(l) != "" || !lens.Same(l, of(hole())) {
		t.Error("12.1: Right or Print of spare room")
	}
}

// TestNotKept: what is handed in is not kept, and answers share no memory, neither with it nor with one another.
func TestNotKept(t *testing.T) {
	const s = "lens abc 1\nface 0 5 1 bk # z\nstop 2 3\nface 0 5 1 air"
	text, name := []byte(s), []byte("bk")
	g := []api.Glass{{Name: unsafe.String(&name[0], 2)}}
	got, _, _ := lens.Read(unsafe.String(&text[0], len(text)), g)
	if string(text) != s || string(name) != "bk" {
		t.Errorf("R2: a text was changed: %q, %q", text, name)
	}
	for k := range text {
		text[k] = '$'
	}
	copy(name, "$$")
	g[0] = api.Glass{}
	bent := plane()
	bent.Glass = "bk"
	want := api.Lens{Name: "abc", Back: d(1, 0), Faces: []api.Face{bent, hole(), plane()}}
	if !reflect.DeepEqual(got, want) {
		t.Errorf("R2: what was handed in was kept: %+v", got)
	}
	title, glass := []byte("abc"), []byte("bk")
	l := want
	l.Name, l.Faces = unsafe.String(&title[0], 3), slices.Clone(want.Faces)
	l.Faces[0].Glass = unsafe.String(&glass[0], 2)
	printed := lens.Print(l)
	copy(title, "$$$")
	copy(glass, "$$")
	clear(l.Faces)
	if printed != "lens abc 1\nface 0 5 1 bk\nstop 2 3\nface 0 5 1 air\n" {
		t.Errorf("R2: a lens was kept: %q", printed)
	}
	a, _, _ := lens.Read(tripletOut, glasses())
	b, _, _ := lens.Read(tripletOut, glasses())
	clear(a.Faces[:cap(a.Faces)])
	if !reflect.DeepEqual(b, triplet()) {
		t.Errorf("R2: two answers share memory: %+v", b)
	}
}

// TestSameAgain: the same call tells the same, whatever was told in between.
func TestSameAgain(t *testing.T) {
	texts := []string{"", head, tripletOut, "$", "lens a 0", head + planeLine, head + holeLine, head + strings.Repeat(planeLine, 12), head + strings.Repeat(planeLine, 13), head + "face 0 5 1 none", head + "face 5 6 1 air", strings.Repeat("a", 4001)}
	for _, s := range texts {
		got, place, e := lens.Read(s, glasses())
		right, printed := lens.Right(got, glasses()), lens.Print(got)
		for _, other := range texts {
			l, _, _ := lens.Read(other, nil)
			lens.Right(l, nil)
			lens.Print(l)
			if again, p, n := lens.Read(s, glasses()); !reflect.DeepEqual(again, got) || p != place || n != e || lens.Right(again, glasses()) != right || lens.Print(again) != printed {
				t.Errorf("R4: %q is told otherwise behind %q: %+v, %v, %d", short(s), short(other), again, p, n)
			}
		}
	}
}

// FuzzRead: nothing panics, and each text is read as the document says.
func FuzzRead(f *testing.F) {
	for _, s := range []string{"", head, tripletOut, head + planeLine + holeLine, "lens a 0", head + "face 5 6 1 air", head + "face 0 5 1 none", head + "face 0 5 1 air a4 1 conic 1", head + strings.Repeat(holeLine, 13), head + planeLine + "#\r", "\xff"} {
		f.Add(s)
	}
	f.Fuzz(func(t *testing.T, s string) {
		check(t, s, glasses())
	})
}

// FuzzRight: nothing panics, and Right is of just the lenses that are read again.
func FuzzRight(f *testing.F) {
	f.Add("a", "bk", true, 1, 0, 2, 1, 3, 2)
	f.Add("a b", "", false, math.MinInt, math.MaxInt, -1, 7, 10, 1)
	f.Fuzz(func(t *testing.T, name, glass string, stop bool, a, aScale, b, bScale, c, cScale int) {
		x, y, z := d(a, aScale), d(b, bScale), d(c, cScale)
		l := api.Lens{Name: name, Back: y, Faces: []api.Face{plane(), {Stop: stop, Radius: x, Aperture: y, Thick: z, Conic: z, A4: x, A6: y, Glass: glass}}}
		g := []api.Glass{{Name: glass}}
		printed := lens.Print(l)
		again, _, e := meant(printed, g)
		if right := lens.Right(l, g); right != (e == api.OK && reflect.DeepEqual(again, l)) || right != (printed != "") {
			t.Errorf("12.1: Right(%+v) is %v, and what is printed tells %+v, %d", l, right, again, e)
		}
	})
}

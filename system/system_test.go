package system_test

import (
	"fmt"
	"math"
	"math/big"
	"reflect"
	"slices"
	"strings"
	"testing"
	"unsafe"

	"meniscus/api"
	"meniscus/dec"
	"meniscus/glass"
	"meniscus/iv"
	"meniscus/lens"
	"meniscus/system"
)

func d(c, scale int) api.Dec {
	return api.Dec{C: c, Scale: scale}
}

func none() api.Iv {
	return api.Iv{No: true}
}

func from(lo, hi int) api.Iv {
	return api.Iv{Lo: lo, Hi: hi}
}

func whole(n int) api.Iv {
	return from(n*api.One, n*api.One)
}

// bent is a glass of those B and C, with two sums that are nothing (but at a wave of 0).
func bent(name string, b, c api.Dec) api.Glass {
	return api.Glass{Name: name, B: [3]api.Dec{b}, C: [3]api.Dec{c}}
}

// Glasses: of half, two, much and little the index is 1.5, 2, some 126, some 1 / 256, at each wave that is a point; pole has none at 2, below and nought never one that anything can be divided by.
var (
	half   = bent("half", d(125, 2), d(0, 0))
	two    = bent("two", d(3, 0), d(0, 0))
	much   = bent("much", d(16000, 0), d(0, 0))
	little = bent("little", d(-99997, 5), d(0, 0))
	pole   = bent("pole", d(1, 0), d(4, 0))
	below  = bent("below", d(-2, 0), d(0, 0))
	nought = bent("nought", d(-1, 0), d(0, 0))
	bk     = api.Glass{Name: "BK7", B: [3]api.Dec{d(1039612, 6), d(231792, 6), d(101047, 5)}, C: [3]api.Dec{d(6001, 6), d(20018, 6), d(10356065, 5)}}
	sf     = api.Glass{Name: "SF10", B: [3]api.Dec{d(172448, 5), d(390105, 6), d(1045728, 6)}, C: [3]api.Dec{d(13487, 6), d(56932, 6), d(118557185, 6)}}
)

func glasses() []api.Glass {
	return []api.Glass{half, two, much, little, pole, below, nought, bk, sf}
}

// plane is the face of the line `face 0 5 1 air`.
func plane() api.Face {
	return api.Face{Aperture: d(5, 0), Thick: d(1, 0), Glass: "air"}
}

// into is plane, but another glass behind it.
func into(name string) api.Face {
	f := plane()
	f.Glass = name
	return f
}

// hole is the stop of the line `stop 2 3`.
func hole() api.Face {
	return api.Face{Stop: true, Aperture: d(2, 0), Thick: d(3, 0)}
}

// of is a lens `a`, 10 far, of those faces.
func of(faces ...api.Face) api.Lens {
	return api.Lens{Name: "a", Back: d(10, 0), Faces: faces}
}

// flat is plane in numbers, there, the same ahead of it and behind it.
func flat(at int) api.Surf {
	return api.Surf{Curve: whole(0), Conic: whole(1), A4: whole(0), A6: whole(0), At: whole(at), Open2: whole(25), Ratio: whole(1)}
}

// ring is hole in numbers, there.
func ring(at int) api.Surf {
	s := flat(at)
	s.Stop, s.Open2 = true, whole(4)
	return s
}

// wide is a system of those whose first one is a plane, narrow one whose first one is a hole.
func wide(surfs ...api.Surf) api.System {
	return api.System{Surfs: surfs, Open: whole(5)}
}

func narrow(surfs ...api.Surf) api.System {
	return api.System{Surfs: surfs, Open: whole(2)}
}

// short is the beginning of what there is to be told of a.
func short(a ...any) string {
	s := fmt.Sprintf("%+v", a)
	return s[:min(len(s), 500)]
}

// builds holds the system of l against want; its error is OK.
func builds(t *testing.T, promise string, l api.Lens, g []api.Glass, wave api.Iv, want api.System) {
	t.Helper()
	got, e := system.Build(l, g, wave)
	if e != api.OK || !reflect.DeepEqual(got, want) {
		t.Errorf("%s: Build(%s): %+v, %d, not %+v", promise, short(l, wave), got, e, want)
	}
}

// refuses holds the error of l against e; there is no system beside it.
func refuses(t *testing.T, l api.Lens, g []api.Glass, wave api.Iv, e api.Errno) {
	t.Helper()
	if got, n := system.Build(l, g, wave); n != e || !reflect.DeepEqual(got, api.System{}) {
		t.Errorf("13.1: Build(%s): %s, %d, not %d", short(l, wave), short(got), n, e)
	}
}

// layout is a lens, its system, and which of its faces is of interest: a plane or a hole.
type layout struct {
	l api.Lens
	s api.System
	k int
}

// planes are lenses of air with a plane to be turned: alone, first, last, in the middle, behind a stop, ahead of one.
func planes() []layout {
	return []layout{
		{of(plane()), wide(flat(10)), 0},
		{of(plane(), plane()), wide(flat(10), flat(11)), 0},
		{of(plane(), plane()), wide(flat(10), flat(11)), 1},
		{of(hole(), plane()), narrow(ring(10), flat(13)), 1},
		{of(plane(), hole()), wide(flat(10), ring(11)), 0},
		{of(plane(), hole(), plane(), plane()), wide(flat(10), ring(11), flat(14), flat(15)), 2},
	}
}

// holes are lenses of air with a stop to be turned.
func holes() []layout {
	return []layout{
		{of(hole(), plane()), narrow(ring(10), flat(13)), 0},
		{of(plane(), hole()), wide(flat(10), ring(11)), 1},
		{of(plane(), hole(), plane()), wide(flat(10), ring(11), flat(14)), 1},
		{of(hole(), hole(), plane(), hole()), narrow(ring(10), ring(13), flat(16), ring(17)), 1},
	}
}

// turns holds what Build tells of each layout, its face turned, against its system, turned: nothing else changes.
func turns(t *testing.T, all []layout, face func(f *api.Face), want func(s *api.System, k int)) {
	t.Helper()
	for _, c := range all {
		face(&c.l.Faces[c.k])
		want(&c.s, c.k)
		builds(t, "13.1", c.l, nil, whole(1), c.s)
		builds(t, "13.1", c.l, glasses(), from(30000, 40000), c.s)
	}
}

// opened puts the numbers of an aperture in their places: the first one's stands in two.
func opened(s *api.System, k int, open, open2 api.Iv) {
	s.Surfs[k].Open2 = open2
	if k == 0 {
		s.Open = open
	}
}

// lacks holds that Build tells ErrNone of each layout, its face turned.
func lacks(t *testing.T, all []layout, face func(f *api.Face)) {
	t.Helper()
	for _, c := range all {
		face(&c.l.Faces[c.k])
		refuses(t, c.l, nil, whole(1), api.ErrNone)
		refuses(t, c.l, glasses(), from(30000, 40000), api.ErrNone)
	}
}

// pair is a decimal, and what some number of it is.
type pair struct {
	d    api.Dec
	want api.Iv
}

// TestExample: the example of chapter 13.
func TestExample(t *testing.T) {
	s, e := system.Build(of(plane()), nil, whole(1))
	if e != api.OK || len(s.Surfs) != 1 || s.Surfs[0].Ratio != whole(1) {
		t.Errorf("13.1: %+v, %d", s, e)
	}
	builds(t, "13.1", of(plane()), nil, whole(1), wide(flat(10)))
}

// TestFaces: as many as the lens has, in their order, up to MaxFaces.
func TestFaces(t *testing.T) {
	for n := 1; n <= api.MaxFaces; n++ {
		l, want := of(plane()), wide(flat(10))
		at := 11
		for k := 1; k < n; k++ {
			if k%3 == 1 {
				l.Faces, want.Surfs = append(l.Faces, hole()), append(want.Surfs, ring(at))
				at += 3
			} else {
				l.Faces, want.Surfs = append(l.Faces, plane()), append(want.Surfs, flat(at))
				at++
			}
		}
		builds(t, "13.1", l, nil, whole(1), want)
	}
	for _, c := range slices.Concat(planes(), holes()) {
		builds(t, "13.1", c.l, nil, whole(1), c.s)
	}
}

// TestRead: a lens as a text tells it, all its parts at once.
func TestRead(t *testing.T) {
	l, _, e := lens.Read("lens a 40.5\nface -50 10 2 half conic -0.5 a4 0.5\nstop 3 1.5\nface 16 5 0.5 air a6 -1\nface 0 5 3 two conic 3\n", glasses())
	if e != api.OK {
		t.Fatalf("12.1: %d", e)
	}
	builds(t, "13.1", l, glasses(), whole(1), api.System{Open: whole(10), Surfs: []api.Surf{
		{Bent: true, Curve: from(-1311, -1310), Conic: from(32768, 32768), A4: from(32768, 32768), A6: whole(0), At: from(2654208, 2654208), Open2: whole(100), Ratio: from(43690, 43691)},
		{Stop: true, Curve: whole(0), Conic: whole(1), A4: whole(0), A6: whole(0), At: from(2785280, 2785280), Open2: whole(9), Ratio: whole(1)},
		{Bent: true, Curve: from(4096, 4096), Conic: whole(1), A4: whole(0), A6: whole(-1), At: whole(44), Open2: whole(25), Ratio: from(98304, 98304)},
		{Curve: whole(0), Conic: whole(4), A4: whole(0), A6: whole(0), At: from(2916352, 2916352), Open2: whole(25), Ratio: from(32768, 32768)},
	}})
}

// TestCurve: of a RADIUS of 0, and of a stop, 0; else 1 by what dec.Of has of it; ErrNone where that is none.
func TestCurve(t *testing.T) {
	for _, c := range []pair{
		{d(0, 0), whole(0)},
		{d(5, 0), from(13107, 13108)}, {d(-5, 0), from(-13108, -13107)}, {d(50, 0), from(1310, 1311)}, {d(-50, 0), from(-1311, -1310)}, {d(8, 0), from(8192, 8192)}, {d(-8, 0), from(-8192, -8192)}, {d(10000, 0), from(6, 7)}, {d(-10000, 0), from(-7, -6)},
		// The radius is rounded ahead of the quotient, so that this is not the quotient's own bounds, 218453 to 218454.
		{d(3, 1), from(218451, 218463)}, {d(-3, 1), from(-218463, -218451)}, {d(1, 0), whole(1)}, {d(5, 1), whole(2)}, {d(-25, 2), whole(-4)},
		{d(16384, 0), from(4, 4)}, {d(-16384, 0), from(-4, -4)}, {d(16383999984, 6), from(4, 5)}, {d(1, 4), from(613566756, 715827883)}, {d(7, 5), from(858993459, 1073741824)}, {d(-7, 5), from(-1073741824, -858993459)},
	} {
		turns(t, planes(), func(f *api.Face) {
			f.Radius, f.Aperture = c.d, d(1, 6)
		}, func(s *api.System, k int) {
			s.Surfs[k].Curve = c.want
			opened(s, k, from(0, 1), from(0, 1))
		})
	}
	for _, radius := range []api.Dec{d(16384000001, 6), d(-16384000001, 6), d(16385, 0), d(99999, 0), d(-99999, 0), d(99999999999, 6), d(6, 5), d(-6, 5), d(1, 6), d(-1, 6), d(15, 6), d(-16, 6)} {
		lacks(t, planes(), func(f *api.Face) {
			f.Radius, f.Aperture = radius, d(1, 6)
		})
	}
}

// TestConic: 1 and what dec.Of has of it; of no conic, and of a stop, 1; ErrNone where one of the two is none.
func TestConic(t *testing.T) {
	for _, c := range []pair{
		{d(0, 0), whole(1)},
		{d(1, 0), whole(2)}, {d(-1, 0), whole(0)}, {d(-2, 0), whole(-1)}, {d(5, 1), from(98304, 98304)}, {d(-5, 1), from(32768, 32768)}, {d(-15, 1), from(-32768, -32768)},
		{d(1, 1), from(72089, 72090)}, {d(-1, 1), from(58982, 58983)}, {d(1, 6), from(65536, 65537)}, {d(-1, 6), from(65535, 65536)},
		{d(16383, 0), whole(16384)}, {d(16382999999, 6), from(1<<30-1, 1<<30)}, {d(-16384, 0), whole(-16383)},
	} {
		turns(t, planes(), func(f *api.Face) {
			f.Conic = c.d
		}, func(s *api.System, k int) {
			s.Surfs[k].Conic = c.want
		})
	}
	for _, conic := range []api.Dec{d(16384, 0), d(16383000001, 6), d(16385, 0), d(-16384000001, 6), d(-16385, 0), d(99999, 0), d(-99999999999, 6)} {
		lacks(t, planes(), func(f *api.Face) {
			f.Conic = conic
		})
	}
}

// terms are numbers of A4 or A6.
func terms() []pair {
	return []pair{
		{d(1, 0), whole(1)}, {d(-1, 0), whole(-1)}, {d(5, 1), from(32768, 32768)}, {d(-25, 2), from(-16384, -16384)}, {d(1, 1), from(6553, 6554)}, {d(-1, 1), from(-6554, -6553)}, {d(1, 6), from(0, 1)}, {d(-1, 6), from(-1, 0)}, {d(16384, 0), whole(16384)}, {d(-16384, 0), whole(-16384)}, {d(16383999999, 6), from(1<<30-1, 1<<30)},
	}
}

// TestTerms: what dec.Of has of A4, of A6; Bent where one of them is not 0, a term of 0 to 1 too; ErrNone where one is none.
func TestTerms(t *testing.T) {
	for _, c := range terms() {
		turns(t, planes(), func(f *api.Face) {
			f.A4 = c.d
		}, func(s *api.System, k int) {
			s.Surfs[k].A4, s.Surfs[k].Bent = c.want, true
		})
		turns(t, planes(), func(f *api.Face) {
			f.A6 = c.d
		}, func(s *api.System, k int) {
			s.Surfs[k].A6, s.Surfs[k].Bent = c.want, true
		})
		for _, other := range terms() {
			turns(t, planes(), func(f *api.Face) {
				f.A4, f.A6, f.Conic = c.d, other.d, d(3, 0)
			}, func(s *api.System, k int) {
				s.Surfs[k].A4, s.Surfs[k].A6, s.Surfs[k].Bent, s.Surfs[k].Conic = c.want, other.want, true, whole(4)
			})
		}
	}
	for _, a := range []api.Dec{d(16384000001, 6), d(-16384000001, 6), d(16385, 0), d(20000, 0), d(-20000, 0), d(99999999999, 6)} {
		lacks(t, planes(), func(f *api.Face) {
			f.A4 = a
		})
		lacks(t, planes(), func(f *api.Face) {
			f.A6 = a
		})
		lacks(t, planes(), func(f *api.Face) {
			f.A4, f.A6 = d(1, 0), a
		})
		lacks(t, planes(), func(f *api.Face) {
			f.A4, f.A6 = a, d(1, 0)
		})
	}
}

// TestBent: of a4 alone, of a6 alone, of both; not of none of them, of a conic or a radius alone, nor of a stop; a face by its own terms alone.
func TestBent(t *testing.T) {
	for k := range 16 {
		f := plane()
		f.Radius, f.Aperture = d((k&8)*5, 0), d(4, 0)
		if k&1 != 0 {
			f.A4 = d(2, 0)
		}
		if k&2 != 0 {
			f.A6 = d(-3, 0)
		}
		if k&4 != 0 {
			f.Conic = d(-1, 0)
		}
		for _, l := range []api.Lens{of(f, plane(), hole(), f), of(f, hole(), plane(), f)} {
			s, e := system.Build(l, nil, whole(1))
			if e != api.OK {
				t.Fatalf("13.1: %+v: %d", l, e)
			}
			for n, want := range []bool{k&3 != 0, false, false, k&3 != 0} {
				if s.Surfs[n].Bent != want {
					t.Errorf("13.1: Bent of %d of %+v is %v", n, l, s.Surfs[n].Bent)
				}
			}
		}
	}
}

// TestAt: of the first one Back; of each other one the place ahead and the Thick of the one ahead, and not its own.
func TestAt(t *testing.T) {
	for _, first := range []api.Face{plane(), hole()} {
		for _, second := range []api.Face{plane(), hole()} {
			for _, third := range []api.Face{plane(), hole()} {
				l := of(first, second, third, plane())
				l.Back = d(405, 1)
				l.Faces[0].Thick, l.Faces[1].Thick, l.Faces[2].Thick, l.Faces[3].Thick = d(25, 2), d(0, 0), d(30, 0), d(7, 0)
				places(t, l, from(2654208, 2654208), from(2670592, 2670592), from(2670592, 2670592), from(4636672, 4636672))
				// Each is rounded, and then added up, so that these are not the sums' own bounds.
				l.Back, l.Faces[0].Thick, l.Faces[1].Thick, l.Faces[2].Thick = d(1, 1), d(1, 1), d(1, 1), d(1, 1)
				places(t, l, from(6553, 6554), from(13106, 13108), from(19659, 19662), from(26212, 26216))
			}
		}
	}
}

// places holds where l's vertices are against want, in two lights.
func places(t *testing.T, l api.Lens, want ...api.Iv) {
	t.Helper()
	for _, wave := range []api.Iv{whole(1), none()} {
		s, e := system.Build(l, nil, wave)
		if e != api.OK || len(s.Surfs) != len(want) {
			t.Errorf("13.1: Build(%+v): %d", l, e)
			continue
		}
		for k, at := range want {
			if s.Surfs[k].At != at {
				t.Errorf("13.1: At of %d of %+v is %+v, not %+v", k, l, s.Surfs[k].At, at)
			}
		}
		if system.Last(s) != want[len(want)-1] {
			t.Errorf("13.1: Last of %+v is %+v", l, system.Last(s))
		}
	}
}

// far is a lens of that Back, and those Thicks, every other one of a stop.
func far(back api.Dec, thicks ...api.Dec) api.Lens {
	l := api.Lens{Name: "a", Back: back}
	for k, thick := range thicks {
		f := plane()
		if k%2 == 1 {
			f = hole()
		}
		f.Thick = thick
		l.Faces = append(l.Faces, f)
	}
	return l
}

// TestAtNone: ErrNone where a place is none: Back, a Thick, or their sum; not of the Thick of the last one, in which nothing stands.
func TestAtNone(t *testing.T) {
	zero, beyond := d(0, 0), []api.Dec{d(16384000001, 6), d(16385, 0), d(20000, 0), d(99999, 0), d(99999999999, 6)}
	for _, b := range beyond {
		refuses(t, far(b, zero), nil, whole(1), api.ErrNone)
		refuses(t, far(b, zero, zero, zero), nil, whole(1), api.ErrNone)
		refuses(t, far(d(1, 0), b, zero), nil, whole(1), api.ErrNone)
		refuses(t, far(d(1, 0), b, zero, zero), nil, whole(1), api.ErrNone)
		refuses(t, far(d(1, 0), zero, b, zero), nil, whole(1), api.ErrNone)
		refuses(t, far(d(1, 0), zero, zero, b, zero), nil, whole(1), api.ErrNone)
		places(t, far(d(1, 0), b), whole(1))
		places(t, far(d(1, 0), zero, b), whole(1), whole(1))
		places(t, far(d(16384, 0), zero, zero, b), whole(16384), whole(16384), whole(16384))
	}
	places(t, far(d(16384, 0), zero), whole(16384))
	places(t, far(d(16384, 0), d(1, 0)), whole(16384))
	places(t, far(d(1, 0), d(16383, 0), zero), whole(1), whole(16384))
	places(t, far(d(1, 0), d(10000, 0), d(6383, 0), zero), whole(1), whole(10001), whole(16384))
	refuses(t, far(d(16384, 0), d(1, 6), zero), nil, whole(1), api.ErrNone)
	refuses(t, far(d(1, 0), d(16384, 0), zero), nil, whole(1), api.ErrNone)
	refuses(t, far(d(1, 6), d(16384, 0), zero), nil, whole(1), api.ErrNone)
	refuses(t, far(d(1, 0), d(10000, 0), d(6384, 0), zero), nil, whole(1), api.ErrNone)
	refuses(t, far(d(9000, 0), d(9000, 0), d(9000, 0), zero), nil, whole(1), api.ErrNone)
}

// TestOpen: Open2 is the square of what dec.Of has of the aperture; Open that itself, of the first one, be it a face or a stop.
func TestOpen(t *testing.T) {
	for _, c := range []struct {
		d           api.Dec
		open, open2 api.Iv
	}{
		{d(1, 0), whole(1), whole(1)}, {d(3, 0), whole(3), whole(9)}, {d(5, 1), from(32768, 32768), from(16384, 16384)}, {d(25, 1), from(163840, 163840), from(409600, 409600)}, {d(128, 0), whole(128), whole(16384)},
		// The aperture is rounded ahead of the square, and the square again.
		{d(1, 1), from(6553, 6554), from(655, 656)}, {d(7, 1), from(45875, 45876), from(32112, 32114)}, {d(1, 6), from(0, 1), from(0, 1)}, {d(127999999, 6), from(8388607, 8388608), from(1073741568, 1073741824)},
	} {
		for _, all := range [][]layout{planes(), holes()} {
			turns(t, all, func(f *api.Face) {
				f.Aperture = c.d
			}, func(s *api.System, k int) {
				opened(s, k, c.open, c.open2)
			})
		}
	}
	for _, aperture := range []api.Dec{d(128000001, 6), d(129, 0), d(200, 0), d(16384, 0), d(16384000001, 6), d(16385, 0), d(20000, 0), d(99999, 0), d(99999999999, 6)} {
		for _, all := range [][]layout{planes(), holes()} {
			lacks(t, all, func(f *api.Face) {
				f.Aperture = aperture
			})
		}
	}
}

// ratios holds the Ratios of the lens of those glasses, `stop` being a stop, against want.
func ratios(t *testing.T, names string, wave api.Iv, want ...api.Iv) {
	t.Helper()
	l := behind(names)
	s, e := system.Build(l, glasses(), wave)
	if e != api.OK || len(s.Surfs) != len(want) {
		t.Errorf("13.1: %q at %+v: %d", names, wave, e)
		return
	}
	for k, ratio := range want {
		if s.Surfs[k].Ratio != ratio || s.Surfs[k].Stop != l.Faces[k].Stop {
			t.Errorf("13.1: %q at %+v: Ratio of %d is %+v, not %+v", names, wave, k, s.Surfs[k].Ratio, ratio)
		}
	}
}

// behind is the lens of planes into those glasses, `stop` being a stop.
func behind(names string) api.Lens {
	l := of()
	for _, name := range strings.Fields(names) {
		if name == "stop" {
			l.Faces = append(l.Faces, hole())
		} else {
			l.Faces = append(l.Faces, into(name))
		}
	}
	return l
}

// TestRatio: the index ahead by that behind; a stop's is 1, and the index stays.
func TestRatio(t *testing.T) {
	third, twoThirds := from(43690, 43691), from(87381, 87382)
	for _, wave := range []api.Iv{whole(1), whole(2), from(32768, 32768), whole(-1), whole(64)} {
		ratios(t, "air", wave, whole(1))
		ratios(t, "half", wave, third)
		ratios(t, "two", wave, from(32768, 32768))
		ratios(t, "air air", wave, whole(1), whole(1))
		ratios(t, "half half", wave, third, whole(1))
		ratios(t, "half half half air", wave, third, whole(1), whole(1), from(98304, 98304))
		ratios(t, "half two", wave, third, from(49152, 49152))
		ratios(t, "two half", wave, from(32768, 32768), twoThirds)
		ratios(t, "half air", wave, third, from(98304, 98304))
		ratios(t, "two air air", wave, from(32768, 32768), whole(2), whole(1))
		ratios(t, "air half", wave, whole(1), third)
		ratios(t, "half air two air half two", wave, third, from(98304, 98304), from(32768, 32768), whole(2), third, from(49152, 49152))
		ratios(t, "stop half", wave, whole(1), third)
		ratios(t, "half stop", wave, third, whole(1))
		ratios(t, "half stop air", wave, third, whole(1), from(98304, 98304))
		ratios(t, "half stop two", wave, third, whole(1), from(49152, 49152))
		ratios(t, "half stop half", wave, third, whole(1), whole(1))
		ratios(t, "half stop stop air", wave, third, whole(1), whole(1), from(98304, 98304))
		ratios(t, "stop stop two stop stop half stop stop", wave, whole(1), whole(1), from(32768, 32768), whole(1), whole(1), twoThirds, whole(1), whole(1))
		ratios(t, "two stop air stop half", wave, from(32768, 32768), whole(1), whole(2), whole(1), third)
	}
	// A quotient of the same two is wide where they are; a stop's is 1 there too.
	n := from(86695, 134310)
	ratios(t, "pole pole", from(3*api.One, 4*api.One), from(31978, 49542), iv.Div(n, n))
	ratios(t, "pole stop air", from(3*api.One, 4*api.One), from(31978, 49542), whole(1), n)
	ratios(t, "pole", whole(3), from(39165, 39166))
	ratios(t, "pole air", whole(3), from(39165, 39166), from(109662, 109663))
}

// chains calls f with each list of up to most of those names.
func chains(most int, f func(names []string)) {
	var walk func(names []string)
	walk = func(names []string) {
		f(slices.Clone(names))
		for k := 0; k < 4 && len(names) < most; k++ {
			walk(append(slices.Clone(names), []string{"air", "half", "two", "stop"}[k]))
		}
	}
	walk(nil)
}

// TestRatioOfChains: of each lens of up to 5 planes and stops of air and two glasses.
func TestRatioOfChains(t *testing.T) {
	exact := map[string]int{"air": 2, "half": 3, "two": 4}
	chains(5, func(names []string) {
		ahead := 2
		var want []api.Iv
		for _, name := range names {
			ratio := whole(1)
			if name != "stop" {
				n := exact[name]
				ratio = from(ahead*api.One/n, (ahead*api.One+n-1)/n)
				ahead = n
			}
			want = append(want, ratio)
		}
		text := strings.Join(names, " ")
		if ahead == 2 && strings.ReplaceAll(strings.ReplaceAll(text, "stop", ""), " ", "") == "" {
			refuses(t, behind(text), glasses(), whole(1), api.ErrArg)
			return
		}
		ratios(t, text, whole(1), want...)
	})
}

// someWaves are of several widths: points of the lines d, F, C, narrow ones, wide ones, and far ones.
func someWaves() []api.Iv {
	return []api.Iv{glass.Line(0), glass.Line(1), glass.Line(2), from(38508, 38508), from(30000, 31000), from(32000, 43000), from(-43000, -32000), whole(1), from(65536, 80000), whole(3), from(3*api.One, 4*api.One), whole(2), whole(0), from(-1, 1), from(0, 65536), whole(100), whole(16384)}
}

// TestWaves: each index at the wave, of the glasses that there are, too.
func TestWaves(t *testing.T) {
	all := map[string]api.Glass{"half": half, "two": two, "pole": pole, "BK7": bk, "SF10": sf, "air": {Name: "air"}}
	for _, wave := range someWaves() {
		for a, one := range all {
			for b, other := range all {
				m, n := glass.Index(one, wave), glass.Index(other, wave)
				first, second, third := iv.Div(whole(1), m), iv.Div(m, n), iv.Div(n, whole(1))
				text := a + " " + b + " stop air"
				if first == none() || second == none() || third == none() {
					refuses(t, behind(text), glasses(), wave, api.ErrNone)
					continue
				}
				ratios(t, text, wave, first, second, whole(1), third)
			}
		}
	}
	s, e := system.Build(behind("BK7 air"), glasses(), glass.Line(0))
	if e != api.OK || !iv.Inside(s.Surfs[1].Ratio, from(99395, 99415)) {
		t.Errorf("13.1: BK7 bends by 1.5168 at d: %+v, %d", s, e)
	}
}

// TestRatioNone: ErrNone where an index is none, or 0 may be in it, or a quotient is none; wherever the face stands.
func TestRatioNone(t *testing.T) {
	wrong := []api.Iv{none(), from(5, 3), from(0, 1<<30+1), {Lo: 65536, Hi: 65536, No: true}, from(math.MinInt, math.MaxInt)}
	for _, c := range []struct {
		name string
		wave []api.Iv
	}{
		{"half", wrong}, {"two", wrong}, {"BK7", wrong}, {"half", []api.Iv{whole(0), from(0, 1), from(-1, 1), whole(129)}},
		{"pole", []api.Iv{whole(2), whole(-2), from(131071, 131073), from(65536, 200000)}}, {"below", []api.Iv{whole(1), whole(3)}}, {"nought", []api.Iv{whole(1), whole(3)}}, {"BK7", []api.Iv{from(10, 65536)}},
	} {
		for _, wave := range c.wave {
			for _, text := range []string{"X", "air X", "X air", "X X", "X stop", "stop X", "stop stop X stop air", "air air air X", "air X air air"} {
				refuses(t, behind(strings.ReplaceAll(text, "X", c.name)), glasses(), wave, api.ErrNone)
			}
		}
	}
	// Both indices are there, and so is what air makes of each of them.
	ratios(t, "little much", whole(1), iv.Div(whole(1), glass.Index(little, whole(1))), iv.Div(glass.Index(little, whole(1)), glass.Index(much, whole(1))))
	ratios(t, "much air little air", whole(1), iv.Div(whole(1), glass.Index(much, whole(1))), glass.Index(much, whole(1)), iv.Div(whole(1), glass.Index(little, whole(1))), glass.Index(little, whole(1)))
	refuses(t, behind("much little"), glasses(), whole(1), api.ErrNone)
	refuses(t, behind("much stop little air"), glasses(), whole(1), api.ErrNone)
	refuses(t, behind("air much little"), glasses(), whole(1), api.ErrNone)
}

// TestNotNone: no ErrNone where what is none stands in no part of the system.
func TestNotNone(t *testing.T) {
	huge := d(99999999999, 6)
	for _, wave := range []api.Iv{none(), {}, whole(0), from(5, 3), {Lo: 1, Hi: 1, No: true}, from(math.MinInt, math.MaxInt), whole(1), whole(16384)} {
		builds(t, "13.1", of(plane(), hole(), plane()), nil, wave, wide(flat(10), ring(11), flat(14)))
		builds(t, "13.1", of(plane(), hole(), plane()), glasses(), wave, wide(flat(10), ring(11), flat(14)))
		for _, last := range []api.Dec{huge, d(16385, 0), d(20000, 0)} {
			l := of(plane(), hole(), plane())
			l.Faces[2].Thick = last
			builds(t, "13.1", l, nil, wave, wide(flat(10), ring(11), flat(14)))
			l = of(plane(), plane(), hole())
			l.Faces[2].Thick = last
			builds(t, "13.1", l, nil, wave, wide(flat(10), flat(11), ring(12)))
			l = of(plane())
			l.Faces[0].Thick = last
			builds(t, "13.1", l, nil, wave, wide(flat(10)))
		}
	}
	// Glasses that no face asks for, that are not right, or that have no index.
	odd := []api.Glass{{}, {Name: "x", B: [3]api.Dec{d(1, 99)}}, below, nought, {Name: "x"}, {Name: "a b"}}
	builds(t, "13.1", of(plane()), odd, whole(1), wide(flat(10)))
	builds(t, "13.1", of(plane()), slices.Repeat(odd, 100), none(), wide(flat(10)))
	// Behind `air` is 1, whatever a glass of that name would have.
	builds(t, "13.1", of(plane(), plane()), []api.Glass{bent("air", d(3, 0), d(0, 0))}, whole(1), wide(flat(10), flat(11)))
	builds(t, "13.1", of(plane(), plane()), []api.Glass{bent("air", d(-3, 0), d(0, 0))}, none(), wide(flat(10), flat(11)))
}

// TestWhichGlass: of glasses of one name the first, as glass.Find has it; their order does not matter otherwise.
func TestWhichGlass(t *testing.T) {
	want := wide(flat(10), flat(11))
	want.Surfs[0].Ratio, want.Surfs[1].Ratio = from(32768, 32768), from(131072, 131072)
	l := of(into("x"), plane())
	x, y := bent("x", d(3, 0), d(0, 0)), bent("x", d(125, 2), d(0, 0))
	for _, g := range [][]api.Glass{{x}, {x, y}, {half, x, y}, {x, half, below}, {below, nought, x}, append(glasses(), x)} {
		builds(t, "13.1", l, g, whole(1), want)
	}
}

// wrongs are lenses that lens.Right takes with no glasses of glasses.
func wrongs() []api.Lens {
	var all []api.Lens
	put := func(turn func(l *api.Lens)) {
		l := of(plane(), hole(), plane())
		turn(&l)
		all = append(all, l)
	}
	for _, name := range []string{"", " ", "1", "-a", "a b", "a\n", "#", "é", strings.Repeat("a", 21)} {
		put(func(l *api.Lens) { l.Name = name })
		put(func(l *api.Lens) { l.Faces[0].Glass = name })
		put(func(l *api.Lens) { l.Faces[2].Glass = name })
	}
	for _, name := range []string{"none", "Half", "hal", "halfs", "AIR", "bk7"} {
		put(func(l *api.Lens) { l.Faces[0].Glass = name })
		put(func(l *api.Lens) { l.Faces[2].Glass = name })
	}
	for _, x := range []api.Dec{d(10, 1), d(0, 1), d(1, 7), d(1, -1), d(100000, 0), d(-100000, 0), d(math.MaxInt, 0), d(math.MinInt, math.MaxInt)} {
		put(func(l *api.Lens) { l.Back = x })
		for k := range 3 {
			put(func(l *api.Lens) { l.Faces[k].Radius = x })
			put(func(l *api.Lens) { l.Faces[k].Aperture = x })
			put(func(l *api.Lens) { l.Faces[k].Thick = x })
			put(func(l *api.Lens) { l.Faces[k].Conic = x })
			put(func(l *api.Lens) { l.Faces[k].A4 = x })
			put(func(l *api.Lens) { l.Faces[k].A6 = x })
		}
	}
	for _, x := range []api.Dec{d(0, 0), d(-1, 0)} {
		put(func(l *api.Lens) { l.Back = x })
		put(func(l *api.Lens) { l.Faces[0].Aperture = x })
		put(func(l *api.Lens) { l.Faces[1].Aperture = x })
	}
	put(func(l *api.Lens) { l.Faces[0].Thick = d(-1, 0) })
	put(func(l *api.Lens) { l.Faces[1].Thick = d(-1, 0) })
	put(func(l *api.Lens) { l.Faces[2].Thick = d(-1, 0) })
	put(func(l *api.Lens) { l.Faces[0].Radius = d(4, 0) })
	put(func(l *api.Lens) { l.Faces[2].Radius = d(-49, 1) })
	// A stop has an Aperture and a Thick alone.
	put(func(l *api.Lens) { l.Faces[1].Glass = "air" })
	put(func(l *api.Lens) { l.Faces[1].Glass = "half" })
	put(func(l *api.Lens) { l.Faces[1].Radius = d(50, 0) })
	put(func(l *api.Lens) { l.Faces[1].Conic = d(1, 0) })
	put(func(l *api.Lens) { l.Faces[1].A4 = d(1, 0) })
	put(func(l *api.Lens) { l.Faces[1].A6 = d(1, 0) })
	for _, n := range []int{13, 14, 100} {
		all = append(all, of(slices.Repeat([]api.Face{plane()}, n)...), of(append(slices.Repeat([]api.Face{hole()}, n), plane())...))
	}
	for n := range 13 {
		all = append(all, of(slices.Repeat([]api.Face{hole()}, n)...))
	}
	return append(all, api.Lens{}, api.Lens{Name: "a", Back: d(1, 0)}, api.Lens{Faces: []api.Face{{}}}, api.Lens{Name: "a", Back: d(1, 0), Faces: []api.Face{}})
}

// TestArg: ErrArg, and no system, of each lens that lens.Right does not take with g, whatever the light.
func TestArg(t *testing.T) {
	for _, l := range wrongs() {
		for _, g := range [][]api.Glass{nil, glasses(), {{}}, {bent("other", d(1, 0), d(0, 0))}} {
			for _, wave := range []api.Iv{whole(1), none(), from(5, 3)} {
				refuses(t, l, g, wave, api.ErrArg)
			}
		}
	}
	for _, l := range []api.Lens{behind("half"), behind("air half"), behind("half air"), behind("stop half stop")} {
		for _, g := range [][]api.Glass{nil, {}, {two}, {{Name: "hal"}}, {{Name: "halfs"}}, {{Name: "Half"}}, glasses()[1:]} {
			refuses(t, l, g, whole(1), api.ErrArg)
			refuses(t, l, g, none(), api.ErrArg)
		}
		if _, e := system.Build(l, []api.Glass{two, half}, whole(1)); e != api.OK {
			t.Errorf("13.1: %+v with its glass: %d", l, e)
		}
	}
}

// TestArgFirst: where both apply, ErrArg.
func TestArgFirst(t *testing.T) {
	huge := d(20000, 0)
	for _, turn := range []func(l *api.Lens){
		func(l *api.Lens) { l.Back = huge },
		func(l *api.Lens) { l.Faces[0].Aperture = huge },
		func(l *api.Lens) { l.Faces[1].Aperture = huge },
		func(l *api.Lens) { l.Faces[0].Radius = huge },
		func(l *api.Lens) { l.Faces[0].Conic = huge },
		func(l *api.Lens) { l.Faces[2].A4 = huge },
		func(l *api.Lens) { l.Faces[2].A6 = huge },
		func(l *api.Lens) { l.Faces[0].Thick = huge },
		func(l *api.Lens) { l.Faces[0].Glass = "below" },
	} {
		l := of(plane(), hole(), plane())
		turn(&l)
		refuses(t, l, glasses(), whole(1), api.ErrNone)
		l.Name = ""
		refuses(t, l, glasses(), whole(1), api.ErrArg)
		l.Name = "a"
		l.Faces[2].Glass = "none"
		refuses(t, l, glasses(), whole(1), api.ErrArg)
		refuses(t, l, glasses(), none(), api.ErrArg)
		l.Faces[2].Glass = "air"
		l.Faces[1].Thick = d(-1, 0)
		refuses(t, l, glasses(), whole(1), api.ErrArg)
	}
}

// TestLast: the last Surf's At, of one, of several; None of none.
func TestLast(t *testing.T) {
	for _, s := range []api.System{{}, {Surfs: []api.Surf{}}, {Open: whole(5)}, {Surfs: []api.Surf{flat(3)}[:0]}} {
		if got := system.Last(s); got != none() {
			t.Errorf("13.1: Last of none is %+v", got)
		}
	}
	for n := 1; n < 20; n++ {
		var s api.System
		for k := range n {
			s.Surfs = append(s.Surfs, flat(20-k))
		}
		if got := system.Last(s); got != whole(21-n) {
			t.Errorf("13.1: Last of %d is %+v", n, got)
		}
		s.Surfs = append(s.Surfs, flat(100))[:n]
		s.Surfs[n-1].Stop, s.Surfs[n-1].At = true, from(-7, 9)
		if got := system.Last(s); got != from(-7, 9) {
			t.Errorf("13.1: Last of %d, a stop, is %+v", n, got)
		}
		s.Surfs[n-1].At = none()
		if got := system.Last(s); got != none() {
			t.Errorf("13.1: Last of a place that is none is %+v", got)
		}
	}
	s, _ := system.Build(of(plane(), hole(), plane()), nil, whole(1))
	if got := system.Last(s); got != whole(14) {
		t.Errorf("13.1: Last is %+v", got)
	}
}

// many is a system of three, each of its numbers another one.
func many() api.System {
	var s api.System
	for k := range 3 {
		n := 100 * k
		s.Surfs = append(s.Surfs, api.Surf{Stop: k == 1, Bent: k == 2, Curve: from(n+1, n+2), Conic: from(n+3, n+4), A4: from(n+5, n+6), A6: from(n+7, n+8), At: from(n+9, n+10), Open2: from(n+11, n+12), Ratio: from(n+13, n+14)})
	}
	s.Open = from(300, 301)
	return s
}

// numbers are all of a system, to be turned.
func numbers(s *api.System) []*api.Iv {
	all := []*api.Iv{&s.Open}
	for k := range s.Surfs {
		f := &s.Surfs[k]
		all = append(all, &f.Curve, &f.Conic, &f.A4, &f.A6, &f.At, &f.Open2, &f.Ratio)
	}
	return all
}

// others are systems that differ from many in one part alone.
func others() []api.System {
	var all []api.System
	put := func(turn func(s *api.System)) {
		s := many()
		turn(&s)
		all = append(all, s)
	}
	for k := range 22 {
		put(func(s *api.System) { numbers(s)[k].Lo-- })
		put(func(s *api.System) { numbers(s)[k].Hi++ })
		put(func(s *api.System) { numbers(s)[k].No = true })
		put(func(s *api.System) { *numbers(s)[k] = none() })
	}
	for k := range 3 {
		put(func(s *api.System) { s.Surfs[k].Stop = !s.Surfs[k].Stop })
		put(func(s *api.System) { s.Surfs[k].Bent = !s.Surfs[k].Bent })
		put(func(s *api.System) { s.Surfs = s.Surfs[:k] })
		put(func(s *api.System) { s.Surfs = slices.Delete(s.Surfs, k, k+1) })
		put(func(s *api.System) { s.Surfs = slices.Insert(s.Surfs, k, api.Surf{}) })
		put(func(s *api.System) { s.Surfs = slices.Insert(s.Surfs, k, s.Surfs[k]) })
	}
	put(func(s *api.System) { s.Surfs = nil })
	put(func(s *api.System) { s.Surfs = append(s.Surfs, api.Surf{}) })
	put(func(s *api.System) { slices.Reverse(s.Surfs) })
	put(func(s *api.System) { *s = api.System{} })
	return all
}

// TestSame: of the same system; not of systems that differ in one part alone.
func TestSame(t *testing.T) {
	same := func(a, b api.System, want bool) {
		t.Helper()
		if system.Same(a, b) != want || system.Same(b, a) != want {
			t.Errorf("13.1: Same(%+v, %+v) is not %v", a, b, want)
		}
	}
	same(many(), many(), true)
	same(api.System{}, api.System{}, true)
	same(api.System{}, api.System{Surfs: []api.Surf{}}, true)
	same(api.System{Open: whole(1)}, api.System{}, false)
	for _, s := range others() {
		same(s, many(), false)
		again := s
		again.Surfs = append(make([]api.Surf, 0, 30), s.Surfs...)
		same(s, again, true)
	}
	for k, one := range someLenses() {
		for n, other := range someLenses() {
			a, _ := system.Build(one, glasses(), whole(1))
			b, _ := system.Build(other, glasses(), whole(1))
			same(a, b, k == n)
		}
	}
}

// someLenses are some of which no two have the same system at 1.
func someLenses() []api.Lens {
	curved := func(radius int, name string) api.Face {
		return api.Face{Radius: d(radius, 0), Aperture: d(10, 0), Thick: d(25, 1), Glass: name}
	}
	aspheric := curved(40, "air")
	aspheric.Conic, aspheric.A4, aspheric.A6 = d(-7, 1), d(3, 1), d(-1, 2)
	return []api.Lens{
		of(plane()), of(plane(), plane()), of(plane(), hole()), of(hole(), plane()), of(into("half")), of(into("two")), of(into("half"), plane()), of(into("half"), into("half")),
		of(curved(30, "air")), of(curved(-30, "air")), of(curved(50, "half"), curved(-50, "air")), of(curved(50, "BK7"), curved(-70, "SF10"), hole(), aspheric), of(hole(), curved(-33, "SF10"), curved(21, "SF10"), hole(), hole(), aspheric, curved(12, "BK7")), of(aspheric, aspheric),
	}
}

// TestNarrower: of a narrower wave each number lies in the wider one's.
func TestNarrower(t *testing.T) {
	for _, wave := range []api.Iv{from(32000, 43000), from(38000, 39000), from(38508, 38509), from(60000, 70000), from(3*api.One, 4*api.One), from(-43000, -32000)} {
		var some []api.Iv
		for k := range 9 {
			for n := k; n < 9; n++ {
				some = append(some, from(wave.Lo+(wave.Hi-wave.Lo)*k/8, wave.Lo+(wave.Hi-wave.Lo)*n/8))
			}
		}
		for _, l := range append(someLenses(), behind("pole"), behind("pole stop air BK7"), behind("half two pole"), behind("SF10 SF10 air")) {
			s, e := system.Build(l, glasses(), wave)
			if e != api.OK {
				t.Errorf("W1: Build(%+v, %+v): %d", l, wave, e)
				continue
			}
			for _, less := range some {
				encloses(t, l, less, s)
			}
		}
	}
}

// encloses holds the system of l in that light against a wider one's.
func encloses(t *testing.T, l api.Lens, wave api.Iv, wider api.System) {
	t.Helper()
	s, e := system.Build(l, glasses(), wave)
	if e != api.OK || len(s.Surfs) != len(wider.Surfs) {
		t.Errorf("W1: Build(%+v, %+v): %d", l, wave, e)
		return
	}
	outer := numbers(&wider)
	for k, n := range numbers(&s) {
		if !iv.Inside(*n, *outer[k]) {
			t.Errorf("W1: %+v at %+v: number %d is %+v, and not in %+v", l, wave, k, *n, *outer[k])
		}
	}
	for k := range s.Surfs {
		if s.Surfs[k].Stop != wider.Surfs[k].Stop || s.Surfs[k].Bent != wider.Surfs[k].Bent {
			t.Errorf("W1: %+v at %+v: %d", l, wave, k)
		}
	}
}

// TestWidened: where a wider wave has a system, there is one in each narrower light, and it is narrower where glass is.
func TestWidened(t *testing.T) {
	l := behind("BK7 air SF10 BK7")
	wider, e := system.Build(l, glasses(), from(32000, 43000))
	less, n := system.Build(l, glasses(), from(38000, 38100))
	if e != api.OK || n != api.OK {
		t.Fatalf("W1: %d, %d", e, n)
	}
	for k := range less.Surfs {
		if a, b := less.Surfs[k].Ratio, wider.Surfs[k].Ratio; !iv.Inside(a, b) || a == b || iv.Inside(b, a) {
			t.Errorf("W1: Ratio of %d is %+v, of a wider wave %+v", k, a, b)
		}
	}
}

// TestAir: a lens of air alone is the same at each wave.
func TestAir(t *testing.T) {
	for _, l := range someLenses() {
		if slices.ContainsFunc(l.Faces, func(f api.Face) bool { return !f.Stop && f.Glass != "air" }) {
			continue
		}
		want, e := system.Build(l, nil, whole(1))
		if e != api.OK {
			t.Fatalf("W1: %+v: %d", l, e)
		}
		for _, wave := range append(someWaves(), none(), from(5, 3)) {
			builds(t, "W1", l, glasses(), wave, want)
		}
	}
}

// exact is the number of a decimal.
func exact(x api.Dec) *big.Rat {
	return new(big.Rat).SetFrac(big.NewInt(int64(x.C)), new(big.Int).Exp(big.NewInt(10), big.NewInt(int64(x.Scale)), nil))
}

// steps is a number of steps.
func steps(n int) *big.Rat {
	return big.NewRat(int64(n), api.One)
}

// index2 is the square of the index of the glass of that name at that wave.
func index2(name string, wave *big.Rat) *big.Rat {
	sum := big.NewRat(1, 1)
	if name == "air" {
		return sum
	}
	g, _ := glass.Find(glasses(), name)
	l := new(big.Rat).Mul(wave, wave)
	for k := range g.B {
		above, below := new(big.Rat).Mul(exact(g.B[k]), l), new(big.Rat).Sub(l, exact(g.C[k]))
		sum.Add(sum, above.Quo(above, below))
	}
	return sum
}

// TestExact: what is known exactly lies in its number.
func TestExact(t *testing.T) {
	has := func(what string, a api.Iv, n *big.Rat) {
		t.Helper()
		if !iv.Right(a) || steps(a.Lo).Cmp(n) > 0 || steps(a.Hi).Cmp(n) < 0 {
			t.Errorf("W1: %s: %v is not in %+v", what, n, a)
		}
	}
	one := big.NewRat(1, 1)
	for _, l := range someLenses() {
		for _, wave := range []api.Iv{whole(1), from(38508, 38508), from(35000, 41000)} {
			s, e := system.Build(l, glasses(), wave)
			if e != api.OK {
				t.Fatalf("W1: %+v: %d", l, e)
			}
			at, ahead := exact(l.Back), one
			has("Open", s.Open, exact(l.Faces[0].Aperture))
			for k, f := range l.Faces {
				surf := s.Surfs[k]
				if f.Radius.C != 0 {
					has("Curve", surf.Curve, new(big.Rat).Inv(exact(f.Radius)))
				}
				has("Conic", surf.Conic, new(big.Rat).Add(one, exact(f.Conic)))
				has("A4", surf.A4, exact(f.A4))
				has("A6", surf.A6, exact(f.A6))
				has("At", surf.At, at)
				has("Open2", surf.Open2, new(big.Rat).Mul(exact(f.Aperture), exact(f.Aperture)))
				at = new(big.Rat).Add(at, exact(f.Thick))
				if f.Stop {
					continue
				}
				n := index2(f.Glass, steps(iv.Mid(wave)))
				square, lo, hi := new(big.Rat).Quo(ahead, n), steps(surf.Ratio.Lo), steps(surf.Ratio.Hi)
				if lo.Mul(lo, lo).Cmp(square) > 0 || hi.Mul(hi, hi).Cmp(square) < 0 {
					t.Errorf("W1: Ratio: the root of %v is not in %+v", square, surf.Ratio)
				}
				ahead = n
			}
		}
	}
}

// meant is the system as the document says it, each number from the lens alone.
func meant(l api.Lens, g []api.Glass, wave api.Iv) (api.System, api.Errno) {
	if !lens.Right(l, g) {
		return api.System{}, api.ErrArg
	}
	var s api.System
	for k, f := range l.Faces {
		at, ahead := dec.Of(l.Back), "air"
		for _, one := range l.Faces[:k] {
			at = iv.Add(at, dec.Of(one.Thick))
			if !one.Stop {
				ahead = one.Glass
			}
		}
		surf := api.Surf{Stop: f.Stop, Bent: f.A4.C != 0 || f.A6.C != 0, Curve: whole(0), Conic: iv.Add(whole(1), dec.Of(f.Conic)), A4: dec.Of(f.A4), A6: dec.Of(f.A6), At: at, Open2: iv.Sqr(dec.Of(f.Aperture)), Ratio: whole(1)}
		if f.Radius.C != 0 {
			surf.Curve = iv.Div(whole(1), dec.Of(f.Radius))
		}
		if !f.Stop {
			surf.Ratio = iv.Div(meantIndex(ahead, g, wave), meantIndex(f.Glass, g, wave))
		}
		s.Surfs = append(s.Surfs, surf)
	}
	s.Open = dec.Of(l.Faces[0].Aperture)
	for _, n := range numbers(&s) {
		if n.No {
			return api.System{}, api.ErrNone
		}
	}
	return s, api.OK
}

// meantIndex is the index behind a face that names that glass.
func meantIndex(name string, g []api.Glass, wave api.Iv) api.Iv {
	k := slices.IndexFunc(g, func(one api.Glass) bool { return one.Name == name })
	if name == "air" || k < 0 {
		return whole(1)
	}
	return glass.Index(g[k], wave)
}

// check holds Build against what the document says, and Last and Same against what it tells.
func check(t *testing.T, l api.Lens, g []api.Glass, wave api.Iv) {
	t.Helper()
	want, e := meant(l, g, wave)
	got, n := system.Build(l, g, wave)
	if n != e || !reflect.DeepEqual(got, want) {
		t.Errorf("13.1: Build(%s): %s, %d, not %s, %d", short(wave, l, g), short(got), n, short(want), e)
	}
	if !system.Same(got, want) {
		t.Errorf("13.1: Same of %+v and %+v is false", got, want)
	}
	if e == api.OK && system.Last(got) != want.Surfs[len(want.Surfs)-1].At {
		t.Errorf("13.1: Last of %+v is %+v", got, system.Last(got))
	}
}

// TestMeant: some lenses at all waves, and each of their numbers, turned.
func TestMeant(t *testing.T) {
	for _, l := range append(someLenses(), wrongs()...) {
		for _, wave := range append(someWaves(), none(), from(5, 3)) {
			check(t, l, glasses(), wave)
			check(t, l, glasses()[:2], wave)
		}
	}
	for _, x := range []api.Dec{d(0, 0), d(1, 6), d(-1, 6), d(1, 0), d(-7, 1), d(10, 0), d(-10, 0), d(127, 0), d(128, 0), d(-129, 0), d(16383, 0), d(16384, 0), d(16385, 0), d(-16384, 0), d(-16385, 0), d(99999999999, 6), d(10, 1)} {
		for _, l := range someLenses() {
			for k := range len(l.Faces) {
				for n := range 7 {
					turned := l
					turned.Faces = slices.Clone(l.Faces)
					f := &turned.Faces[k]
					*[]*api.Dec{&turned.Back, &f.Radius, &f.Aperture, &f.Thick, &f.Conic, &f.A4, &f.A6}[n] = x
					check(t, turned, glasses(), whole(1))
				}
			}
		}
	}
}

// TestNothingPanics: whatever is handed in.
func TestNothingPanics(t *testing.T) {
	ints := []int{math.MinInt, -1 << 32, -api.Most - 1, -1, 0, 1, 7, api.Most, 1 << 32, math.MaxInt}
	for _, a := range ints {
		for _, b := range ints {
			odd := []api.Glass{bent("x", d(a, b), d(b, a))}
			for _, l := range []api.Lens{of(into("x"), plane()), of(into("x"), hole(), into("x"))} {
				for _, wave := range []api.Iv{whole(1), from(a, b), {Lo: a, Hi: b, No: true}} {
					check(t, l, odd, wave)
					check(t, l, append(glasses(), odd...), wave)
				}
				for n := range 7 {
					f := &l.Faces[1]
					*[]*api.Dec{&l.Back, &f.Radius, &f.Aperture, &f.Thick, &f.Conic, &f.A4, &f.A6}[n] = d(a, b)
					check(t, l, odd, whole(1))
				}
			}
			s := many()
			for _, n := range numbers(&s) {
				*n = from(a, b)
			}
			if !system.Same(s, s) || system.Last(s) != from(a, b) {
				t.Errorf("13.1: Same or Last of %+v", s)
			}
		}
	}
	for _, name := range []string{strings.Repeat("a", 1<<20), strings.Repeat("\n", 1<<20), strings.Repeat("\xff", 1<<20), "face 0 5 1 air\n"} {
		for _, l := range []api.Lens{{Name: name}, of(into(name)), of(slices.Repeat([]api.Face{into(name)}, 12)...), of(slices.Repeat([]api.Face{plane()}, 1<<16)...)} {
			refuses(t, l, []api.Glass{{Name: name}}, whole(1), api.ErrArg)
		}
	}
	crowd := append(make([]api.Glass, 1<<20), half)
	ratios(t, "half", whole(1), from(43690, 43691))
	if s, e := system.Build(behind("half"), crowd, whole(1)); e != api.OK || s.Surfs[0].Ratio != from(43690, 43691) {
		t.Errorf("13.1: of very many glasses: %+v, %d", s, e)
	}
	long := api.System{Surfs: make([]api.Surf, 1<<20)}
	if !system.Same(long, long) || system.Last(long) != (api.Iv{}) || system.Same(long, api.System{}) {
		t.Error("13.1: Same or Last of very many")
	}
}

// TestNotChanged: what is handed in stands as it was, spare room too.
func TestNotChanged(t *testing.T) {
	for _, l := range append(wrongs(), someLenses()...) {
		for _, wave := range []api.Iv{whole(1), none()} {
			faces := append(slices.Clone(l.Faces), plane(), hole(), api.Face{Glass: "spare"})
			g := append(glasses(), api.Glass{Name: "spare"}, api.Glass{Name: "air"})
			keptFaces, keptG, one := slices.Clone(faces), slices.Clone(g), l
			one.Faces = faces[:len(l.Faces)]
			system.Build(one, g[:len(glasses())], wave)
			if !slices.Equal(faces, keptFaces) || !slices.Equal(g, keptG) {
				t.Errorf("R2: %+v was changed", l)
			}
		}
	}
	for n := range 4 {
		surfs := append(many().Surfs, flat(7), ring(8))
		kept := slices.Clone(surfs)
		s := api.System{Surfs: surfs[:n], Open: whole(5)}
		system.Last(s)
		system.Same(s, many())
		system.Same(many(), s)
		if !slices.Equal(surfs, kept) {
			t.Errorf("R2: %+v was changed", s)
		}
	}
}

// TestSpareRoom: spare room of what is handed in is nothing that was handed in.
func TestSpareRoom(t *testing.T) {
	g := []api.Glass{two, half}
	refuses(t, behind("half"), g[:1], whole(1), api.ErrArg)
	refuses(t, behind("two"), g[:0], whole(1), api.ErrArg)
	l := of(hole(), plane(), plane())
	l.Faces = l.Faces[:1]
	refuses(t, l, g, whole(1), api.ErrArg)
	l.Faces = l.Faces[:2]
	builds(t, "R2", l, g, whole(1), narrow(ring(10), flat(13)))
	a, b := many(), many()
	a.Surfs, b.Surfs = append(a.Surfs, flat(1))[:3], append(b.Surfs, ring(2))[:3]
	if !system.Same(a, b) {
		t.Error("13.1: Same of spare room")
	}
}

// TestNotKept: what is handed in is not kept, and no two answers share memory.
func TestNotKept(t *testing.T) {
	title, name, other := []byte("a"), []byte("half"), []byte("half")
	l := of(into(unsafe.String(&name[0], 4)), hole(), plane())
	l.Name = unsafe.String(&title[0], 1)
	g := []api.Glass{two, half}
	g[1].Name = unsafe.String(&other[0], 4)
	want := wide(flat(10), ring(11), flat(14))
	want.Surfs[0].Ratio, want.Surfs[2].Ratio = from(43690, 43691), from(98304, 98304)
	got, e := system.Build(l, g, whole(1))
	if string(title) != "a" || string(name) != "half" || string(other) != "half" {
		t.Errorf("R2: a text was changed: %q, %q, %q", title, name, other)
	}
	again, _ := system.Build(l, g, whole(1))
	copy(title, "$")
	copy(name, "$$$$")
	copy(other, "$$$$")
	clear(l.Faces)
	clear(g)
	if e != api.OK || !reflect.DeepEqual(got, want) {
		t.Errorf("R2: what was handed in was kept: %+v, %d", got, e)
	}
	clear(got.Surfs[:cap(got.Surfs)])
	if !reflect.DeepEqual(again, want) {
		t.Errorf("R2: two answers share memory: %+v", again)
	}
	builds(t, "R2", of(into("half"), hole(), plane()), glasses(), whole(1), want)
}

// TestSameAgain: the same call tells the same, whatever was told in between.
func TestSameAgain(t *testing.T) {
	all := append(someLenses(), api.Lens{}, of(hole()), behind("none"), behind("below"), far(d(20000, 0), d(1, 0)))
	for _, l := range all {
		for _, wave := range []api.Iv{whole(1), from(38000, 39000), none()} {
			want, e := system.Build(l, glasses(), wave)
			for _, other := range all {
				system.Build(other, glasses(), whole(2))
				system.Build(other, nil, none())
				again, n := system.Build(l, glasses(), wave)
				if n != e || !reflect.DeepEqual(again, want) || !system.Same(again, want) || system.Last(again) != system.Last(want) {
					t.Errorf("R4: %+v is told otherwise behind %+v: %+v, %d", l, other, again, n)
				}
			}
		}
	}
}

// FuzzBuild: nothing panics, and each lens is built as the document says.
func FuzzBuild(f *testing.F) {
	f.Add("a", "x", true, 405, 1, 5, 0, -3, 2, 65536, 65537, false)
	f.Add("a", "air", false, 20000, 0, 5, 0, 0, 0, 0, -1, true)
	f.Add("a b", "y", false, math.MinInt, math.MaxInt, -1, 7, 10, 1, math.MinInt, math.MaxInt, false)
	f.Fuzz(func(t *testing.T, name, behind string, stop bool, a, aScale, b, bScale, c, cScale, lo, hi int, no bool) {
		x, y, z := d(a, aScale), d(b, bScale), d(c, cScale)
		l := api.Lens{Name: name, Back: x, Faces: []api.Face{{Aperture: y, Thick: x, Glass: behind, Conic: z}, {Stop: stop, Aperture: y, Thick: z}, {Radius: x, Aperture: y, A4: z, A6: x, Glass: "air"}}}
		if !stop {
			l.Faces[1].Glass, l.Faces[1].Radius = behind, z
		}
		check(t, l, []api.Glass{bent("x", x, y), bent("y", y, z)}, api.Iv{Lo: lo, Hi: hi, No: no})
	})
}

package perm_test

import (
	"math"
	"slices"
	"strings"
	"testing"

	"bulwark/api"
	"bulwark/perm"
)

var (
	everything = api.Attr{R: true, W: true, X: true, AF: true}
	accs       = []int{api.AccRead, api.AccWrite, api.AccExec}
	// numbers that are no access; some come back among accesses where bits are lost.
	badAccs = []int{math.MinInt, math.MinInt + 1, -1 << 32, -256, -3, -2, -1, 3, 4, 5, 255, 256, 257, 1 << 16, 1 << 32, 1<<32 + 1, 1<<32 + 2, 1 << 62, math.MaxInt - 1, math.MaxInt}
	softs   = []int{0, 1, 2, 15, 16, -1, math.MinInt, math.MaxInt}
)

// letters writes an attribute's letters, those that it has: r, w, x, a (AF), n (NG).
func letters(a api.Attr) string {
	s := ""
	for i, has := range []bool{a.R, a.W, a.X, a.AF, a.NG} {
		if has {
			s += "rwxan"[i : i+1]
		}
	}
	return s
}

// attr is the attribute of those letters.
func attr(s string) api.Attr {
	has := func(c string) bool { return strings.Contains(s, c) }
	return api.Attr{R: has("r"), W: has("w"), X: has("x"), AF: has("a"), NG: has("n")}
}

// attrs are all attributes without Soft.
func attrs() (l []api.Attr) {
	for i := range 32 {
		s := ""
		for k := range 5 {
			if i>>k%2 == 1 {
				s += "rwxan"[k : k+1]
			}
		}
		l = append(l, attr(s))
	}
	return l
}

// slowMay looks for the access's letter.
func slowMay(a api.Attr, acc int) bool {
	return strings.Contains(letters(a), "rwx"[acc:acc+1])
}

// slowBoth counts who has each letter: all must, but of n one is enough.
func slowBoth(l ...api.Attr) api.Attr {
	s := ""
	for _, c := range []string{"r", "w", "x", "a", "n"} {
		n := 0
		for _, a := range l {
			n += strings.Count(letters(a), c)
		}
		if c != "n" && n == len(l) || c == "n" && n > 0 {
			s += c
		}
	}
	return attr(s)
}

func checkBoth(t *testing.T, l ...api.Attr) {
	t.Helper()
	if a, want := perm.Both(l...), slowBoth(l...); a != want {
		t.Fatalf("Both of %v: %+v, not %+v", l, a, want)
	}
}

// P6.1: R, W or X, by the access, whatever else is so.
func TestMay(t *testing.T) {
	for _, a := range attrs() {
		for _, soft := range softs {
			a.Soft = soft
			for _, acc := range accs {
				if may, e := perm.May(a, acc); may != slowMay(a, acc) || e != api.OK {
					t.Errorf("May(%+v, %d): %v, %d", a, acc, may, e)
				}
			}
		}
	}
}

// P6.1: each right by itself, written out; what has no AF, or is one address space's alone, may be done none the less.
func TestMayByHand(t *testing.T) {
	for _, c := range []struct {
		a       api.Attr
		r, w, x bool
	}{
		{api.Attr{}, false, false, false},
		{api.Attr{R: true}, true, false, false},
		{api.Attr{W: true}, false, true, false},
		{api.Attr{X: true}, false, false, true},
		{api.Attr{AF: true}, false, false, false},
		{api.Attr{NG: true}, false, false, false},
		{api.Attr{Soft: 15}, false, false, false},
		{api.Attr{R: true, X: true, AF: true}, true, false, true},
		{everything, true, true, true},
	} {
		r, e := perm.May(c.a, api.AccRead)
		w, f := perm.May(c.a, api.AccWrite)
		x, g := perm.May(c.a, api.AccExec)
		if r != c.r || w != c.w || x != c.x || e != api.OK || f != api.OK || g != api.OK {
			t.Errorf("%+v: %v %v %v, %d %d %d", c.a, r, w, x, e, f, g)
		}
	}
}

// P6.1, P6.2, R4: an access that is none is ErrForm, with nothing beside it, whatever the attribute says.
func TestBadAccess(t *testing.T) {
	for _, a := range attrs() {
		for _, acc := range badAccs {
			if may, e := perm.May(a, acc); may || e != api.ErrForm {
				t.Errorf("May(%+v, %d): %v, %d", a, acc, may, e)
			}
			if f, e := perm.Flag(a, acc, 2, 3, 77); f != (api.Fault{}) || e != api.ErrForm {
				t.Errorf("Flag(%+v, %d): %+v, %d", a, acc, f, e)
			}
		}
	}
}

// P6.1, example 1: none at all, and a nil list, which is the same.
func TestBothOfNone(t *testing.T) {
	if a := perm.Both(); a != everything {
		t.Errorf("of none: %+v", a)
	}
	if a := perm.Both([]api.Attr(nil)...); a != everything {
		t.Errorf("of a nil list: %+v", a)
	}
	if a := perm.Both([]api.Attr{}...); a != everything {
		t.Errorf("of an empty list: %+v", a)
	}
}

// P6.1: of one: itself without its Soft. Of two and three, in any order.
func TestBoth(t *testing.T) {
	all := attrs()
	for _, a := range all {
		checkBoth(t, a)
		for _, b := range all {
			checkBoth(t, a, b)
			for _, c := range all {
				checkBoth(t, a, b, c)
			}
		}
	}
}

// P6.1: written out, with values and with a row of them.
func TestBothByHand(t *testing.T) {
	for _, c := range []struct {
		l    []string
		want string
	}{
		{[]string{""}, ""},
		{[]string{"rwxan"}, "rwxan"},
		{[]string{"rwxa", "rwxa"}, "rwxa"},
		{[]string{"rwxa", "rxa"}, "rxa"},
		{[]string{"rwa", "xa"}, "a"},
		{[]string{"rwx", "rwxa"}, "rwx"},
		{[]string{"n", ""}, "n"},
		{[]string{"rwxa", "rwxan", "rwxa"}, "rwxan"},
		{[]string{"wxa", "rxa", "rwa", "rwx"}, ""},
	} {
		var l []api.Attr
		for _, s := range c.l {
			l = append(l, attr(s))
		}
		if a := perm.Both(l...); a != attr(c.want) {
			t.Errorf("%v: %+v", c.l, a)
		}
		slices.Reverse(l)
		if a := perm.Both(l...); a != attr(c.want) {
			t.Errorf("%v, turned about: %+v", c.l, a)
		}
	}
	if a := perm.Both(api.Attr{R: true, W: true, AF: true}, api.Attr{R: true, NG: true}); a != (api.Attr{R: true, NG: true}) {
		t.Errorf("of values: %+v", a)
	}
}

// P6.1: Soft 0, whatever the Softs are, also where all have the same, and of one alone.
func TestBothSoft(t *testing.T) {
	for _, x := range softs {
		a := everything
		a.Soft = x
		checkBoth(t, a)
		checkBoth(t, a, a)
		for _, y := range softs {
			checkBoth(t, a, api.Attr{R: true, Soft: y}, a)
		}
	}
}

// P6.1: any number: in a long row one alone tells, at the ends and within.
func TestBothMany(t *testing.T) {
	l := slices.Repeat([]api.Attr{everything}, 1<<16)
	checkBoth(t, l...)
	for _, i := range []int{0, 1, 254, 255, 256, 1 << 15, 1<<16 - 2, 1<<16 - 1} {
		for _, a := range []string{"wxa", "rxa", "rwa", "rwx", "rwxan", ""} {
			l[i] = attr(a)
			if b := perm.Both(l...); b != l[i] {
				t.Errorf("%q at %d: %+v", a, i, b)
			}
		}
		l[i] = everything
	}
}

// R2: a row that is handed in stays as it is, its spare room too.
func TestRowStays(t *testing.T) {
	row := []api.Attr{{R: true, Soft: 3}, {W: true, NG: true}, {X: true, AF: true, Soft: 9}, {R: true, AF: true, Soft: 5}}
	for n := range len(row) + 1 {
		l := slices.Clone(row)
		perm.Both(l[:n]...)
		if !slices.Equal(l, row) {
			t.Errorf("the first %d: %+v", n, l)
		}
	}
}

// P6.2: AF is asked for first, then the right; the place is told as it was given.
func TestFlag(t *testing.T) {
	for _, a := range attrs() {
		for _, acc := range accs {
			for stage := range 3 {
				for level := range 4 {
					for _, page := range []int{0, 1, 77, api.MaxPage} {
						want := api.Fault{Stage: stage, Level: level, Page: page}
						switch s := letters(a); {
						case !strings.Contains(s, "a"):
							want.Kind = api.FaultFlag
						case !strings.Contains(s, "rwx"[acc:acc+1]):
							want.Kind = api.FaultPerm
						default:
							want = api.Fault{}
						}
						if f, e := perm.Flag(a, acc, stage, level, page); f != want || e != api.OK {
							t.Errorf("Flag(%+v, %d, %d, %d, %d): %+v, %d", a, acc, stage, level, page, f, e)
						}
					}
				}
			}
		}
	}
}

// P6.2: written out.
func TestFlagByHand(t *testing.T) {
	for _, c := range []struct {
		a    string
		acc  int
		want api.Fault
	}{
		{"", api.AccRead, api.Fault{Kind: api.FaultFlag, Stage: 2, Level: 1, Page: 77}},
		{"rwx", api.AccRead, api.Fault{Kind: api.FaultFlag, Stage: 2, Level: 1, Page: 77}},
		{"wx", api.AccRead, api.Fault{Kind: api.FaultFlag, Stage: 2, Level: 1, Page: 77}},
		{"a", api.AccRead, api.Fault{Kind: api.FaultPerm, Stage: 2, Level: 1, Page: 77}},
		{"wxa", api.AccRead, api.Fault{Kind: api.FaultPerm, Stage: 2, Level: 1, Page: 77}},
		{"rxan", api.AccWrite, api.Fault{Kind: api.FaultPerm, Stage: 2, Level: 1, Page: 77}},
		{"rwa", api.AccExec, api.Fault{Kind: api.FaultPerm, Stage: 2, Level: 1, Page: 77}},
		{"ra", api.AccRead, api.Fault{}},
		{"wa", api.AccWrite, api.Fault{}},
		{"xan", api.AccExec, api.Fault{}},
		{"rwxa", api.AccWrite, api.Fault{}},
	} {
		if f, e := perm.Flag(attr(c.a), c.acc, 2, 1, 77); f != c.want || e != api.OK {
			t.Errorf("%q, %d: %+v, %d", c.a, c.acc, f, e)
		}
	}
}

// P6.2: the chapter asks nothing of stage, level and page: any numbers are told as they are, and none where there is no fault.
func TestFlagAnyPlace(t *testing.T) {
	odd := []int{math.MinInt, -1, 0, 3, 4, 99, 4096, math.MaxInt}
	for _, stage := range odd {
		for _, level := range odd {
			for _, page := range odd {
				f, e := perm.Flag(attr("rx"), api.AccRead, stage, level, page)
				if f != (api.Fault{Kind: api.FaultFlag, Stage: stage, Level: level, Page: page}) || e != api.OK {
					t.Errorf("no AF, %d, %d, %d: %+v, %d", stage, level, page, f, e)
				}
				f, e = perm.Flag(attr("rxa"), api.AccWrite, stage, level, page)
				if f != (api.Fault{Kind: api.FaultPerm, Stage: stage, Level: level, Page: page}) || e != api.OK {
					t.Errorf("no W, %d, %d, %d: %+v, %d", stage, level, page, f, e)
				}
				f, e = perm.Flag(everything, api.AccExec, stage, level, page)
				if f != (api.Fault{}) || e != api.OK {
					t.Errorf("all, %d, %d, %d: %+v, %d", stage, level, page, f, e)
				}
			}
		}
	}
}

// P6.3: what several let be together, each of them lets be; and where Both has no fault, none of them has one.
func TestBothMayLess(t *testing.T) {
	for _, a := range attrs() {
		for _, b := range attrs() {
			both := perm.Both(a, b)
			for _, acc := range accs {
				mayA, _ := perm.May(a, acc)
				mayB, _ := perm.May(b, acc)
				if may, _ := perm.May(both, acc); may != (mayA && mayB) {
					t.Errorf("%+v, %+v, %d: %v", a, b, acc, may)
				}
				none := api.Fault{}
				fa, _ := perm.Flag(a, acc, 1, 2, 3)
				fb, _ := perm.Flag(b, acc, 1, 2, 3)
				if f, _ := perm.Flag(both, acc, 1, 2, 3); (f == none) != (fa == none && fb == none) {
					t.Errorf("%+v, %+v, %d: %+v", a, b, acc, f)
				}
			}
		}
	}
}

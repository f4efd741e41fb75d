package nest_test

import (
	"fmt"
	"math"
	"slices"
	"testing"

	"bulwark/api"
	"bulwark/desc"
	"bulwark/nest"
)

var (
	accs = []int{api.AccRead, api.AccWrite, api.AccExec}
	// numbers that are no access, and none of a page or a root's frame; some come back among them where bits are lost.
	badAccs  = []int{math.MinInt, math.MinInt + 1, -1 << 32, -2, -1, 3, 4, 256, 1 << 32, 1<<32 + 1, math.MaxInt}
	badPages = []int{math.MinInt, math.MinInt + 8, -1 << 32, -4096, -8, -1, 4096, 4097, 4104, 8192, 1 << 24, 1 << 32, 1<<32 + 5, 1 << 62, math.MaxInt}
	anyTags  = []int{math.MinInt, -7, 0, 1, 15, 16, 99, math.MaxInt}
	sizes    = []int{512, 64, 8, 1} // pages of a leaf, by level
	all      = attr("rwxa")
)

// attr is the attribute of those letters: r, w, x, a (AF), n (NG).
func attr(letters string) (a api.Attr) {
	for _, c := range letters {
		switch c {
		case 'r':
			a.R = true
		case 'w':
			a.W = true
		case 'x':
			a.X = true
		case 'a':
			a.AF = true
		case 'n':
			a.NG = true
		}
	}
	return a
}

// answer is all that a call tells.
type answer struct {
	h    api.Hit
	f    api.Fault
	read []int
	e    api.Errno
}

func (a answer) same(b answer) bool {
	return a.h == b.h && a.f == b.f && slices.Equal(a.read, b.read) && a.e == b.e
}

func mid(m api.Mem, two api.Root, page, acc int) (a answer) {
	a.h, a.f, a.read, a.e = nest.Mid(m, two, page, acc)
	return a
}

func trans(m api.Mem, one, two api.Root, page, acc int) (a answer) {
	a.h, a.f, a.read, a.e = nest.Trans(m, one, two, page, acc)
	return a
}

func checkMid(t *testing.T, name string, m api.Mem, two api.Root, page, acc int, want answer) {
	t.Helper()
	if got := mid(m, two, page, acc); !got.same(want) {
		t.Fatalf("%s: Mid(%+v, %#o, %d): %+v, not %+v", name, two, page, acc, got, want)
	}
}

func checkTrans(t *testing.T, name string, m api.Mem, one, two api.Root, page, acc int, want answer) {
	t.Helper()
	if got := trans(m, one, two, page, acc); !got.same(want) {
		t.Fatalf("%s: Trans(%+v, %+v, %#o, %d): %+v, not %+v", name, one, two, page, acc, got, want)
	}
}

// digit is a page's place in a table of that level: its digits in eights, the highest one level 0's.
func digit(level, page int) int {
	return []int{page / 512, page / 64 % 8, page / 8 % 8, page % 8}[level]
}

// ground is a memory in which a test lays tables.
type ground struct {
	api.Mem
}

func groundOf(frames int) ground {
	return ground{api.Mem{Words: make([]uint64, frames*8)}}
}

// lay lays a descriptor where a table of that stage and level has the page's.
func (g ground) lay(stage, level, frame, page int, d api.Desc) {
	w, e := desc.Word(stage, level, d)
	if e != api.OK {
		panic(fmt.Sprint("no such descriptor: ", stage, level, d))
	}
	g.Words[frame*8+digit(level, page)] = w
}

// but is a copy with another descriptor at one place.
func (g ground) but(stage, level, frame, page int, d api.Desc) api.Mem {
	x := ground{api.Mem{Words: slices.Clone(g.Words)}}
	x.lay(stage, level, frame, page, d)
	return x.Mem
}

func tableAt(frame int) api.Desc { return api.Desc{Kind: api.DescTable, Frame: frame} }

func leafAt(frame int, a api.Attr) api.Desc {
	return api.Desc{Kind: api.DescLeaf, Frame: frame, Attr: a}
}

func on(frame int) api.Root { return api.Root{On: true, Frame: frame} }

// slowMid is the document's stage 2, written once more from the words of memory.
func slowMid(m api.Mem, two api.Root, page, acc int) (a answer) {
	frames, level, d := len(m.Words)/8, 0, tableAt(two.Frame)
	fail := func(kind int) answer {
		return answer{f: api.Fault{Kind: kind, Stage: 2, Level: level, Page: page}, read: a.read}
	}
	if !two.On {
		if page >= frames {
			return fail(api.FaultSize)
		}
		return answer{h: api.Hit{Frame: page, Mid: page, Attr: all}}
	}
	for ; ; level++ {
		if d.Frame >= frames {
			return fail(api.FaultSize)
		}
		a.read = append(a.read, d.Frame)
		d, _ = desc.Of(2, level, m.Words[8*d.Frame+digit(level, page)])
		if d.Kind != api.DescTable {
			break
		}
	}
	frame := d.Frame + page%sizes[level]
	switch may := []bool{d.R, d.W, d.X}[acc]; {
	case d.Kind == api.DescNone:
		return fail(api.FaultTrans)
	case frame >= frames:
		return fail(api.FaultSize)
	case !d.AF:
		return fail(api.FaultFlag)
	case !may:
		return fail(api.FaultPerm)
	}
	return answer{h: api.Hit{Frame: frame, Mid: page, Attr: d.Attr, Level: level}, read: a.read}
}

// slowTrans is the document's both stages, written once more: each level of stage 1 calls the next.
func slowTrans(m api.Mem, one, two api.Root, page, acc int) answer {
	if one.On {
		return slowTable(m, two, 0, one.Frame, page, acc, nil)
	}
	a := slowMid(m, two, page, acc)
	if a.f.Kind == api.FaultNone {
		a.h.Soft, a.h.Level = 0, 3
	}
	return a
}

func slowTable(m api.Mem, two api.Root, level, at, page, acc int, read []int) answer {
	a := slowMid(m, two, at, api.AccRead)
	read = append(read, a.read...)
	if a.f.Kind != api.FaultNone {
		a.f.Walk = true
		return answer{f: a.f, read: read}
	}
	read = append(read, a.h.Frame)
	d, _ := desc.Of(1, level, m.Words[8*a.h.Frame+digit(level, page)])
	f := api.Fault{Stage: 1, Level: level, Page: page}
	switch may := []bool{d.R, d.W, d.X}[acc]; {
	case d.Kind == api.DescTable:
		return slowTable(m, two, level+1, d.Frame, page, acc, read)
	case d.Kind == api.DescNone:
		f.Kind = api.FaultTrans
	case !d.AF:
		f.Kind = api.FaultFlag
	case !may:
		f.Kind = api.FaultPerm
	default:
		return slowLeaf(slowMid(m, two, d.Frame+page%sizes[level], acc), level, d.Attr, read)
	}
	return answer{f: f, read: read}
}

func slowLeaf(a answer, level int, d api.Attr, read []int) answer {
	a.read = append(read, a.read...)
	if a.f.Kind == api.FaultNone {
		a.h.Level = level
		a.h.Attr = api.Attr{R: d.R && a.h.R, W: d.W && a.h.W, X: d.X && a.h.X, AF: d.AF && a.h.AF, NG: d.NG}
	}
	return a
}

// Of the course: the page, the intermediate pages of stage 1's four tables and of what the page leads to, and all frames that are read, in order.
const (
	coursePage   = 0o7654
	courseFrames = 64
)

var (
	courseMids = []int{0o1234, 0o2345, 0o3456, 0o4567, 0o5654}
	courseWay  = []int{0, 1, 2, 3, 16, 0, 4, 5, 6, 17, 0, 7, 8, 9, 18, 0, 10, 11, 12, 19, 0, 13, 14, 15}
	courseEnd  = 20
)

// course is a memory in which no two steps of one translation read the same word: stage 2 from frame 0 on, stage 1 in frames 16 to 19, the page in frame 20.
func course() ground {
	g := groundOf(courseFrames)
	for k, page := range courseMids {
		way := []int{0, 3*k + 1, 3*k + 2, 3*k + 3}
		for level := range 3 {
			g.lay(2, level, way[level], page, tableAt(way[level+1]))
		}
		g.lay(2, 3, way[3], page, leafAt(16+k, all))
		if k < 3 {
			g.lay(1, k, 16+k, coursePage, tableAt(courseMids[k+1]))
		}
	}
	g.lay(1, 3, 19, coursePage, leafAt(courseMids[4], all))
	return g
}

// courseOne and courseTwo are the course's roots.
func courseOne() api.Root { return on(courseMids[0]) }
func courseTwo() api.Root { return on(0) }

// P7.1: stage 2 not on: each frame that is there is its own page's, for each access; nothing is read.
func TestMidOff(t *testing.T) {
	for frames := 1; frames <= 64; frames++ {
		g := groundOf(frames)
		for _, acc := range accs {
			for page := range 4096 {
				want := answer{h: api.Hit{Frame: page, Mid: page, Attr: all}}
				if page >= frames {
					want = answer{f: api.Fault{Kind: api.FaultSize, Stage: 2, Page: page}}
				}
				checkMid(t, "off", g.Mem, api.Root{Frame: page}, page, acc, want)
			}
		}
	}
}

// P7.1: a leaf of each level, with all that its attributes may be: the Hit has them as they stand, Soft too, and stage 2's level.
func TestMidAttr(t *testing.T) {
	path := []int{3, 1, 2, 0}
	for level := 1; level <= 3; level++ {
		for bits := range 1 << 8 {
			is := func(k int) bool { return bits>>k%2 == 1 }
			a := api.Attr{R: is(0), W: is(1), X: is(2), AF: is(3), Soft: bits >> 4}
			g := groundOf(64)
			for l := range level {
				g.lay(2, l, path[l], 0o1234, tableAt(path[l+1]))
			}
			g.lay(2, level, path[level], 0o1234, leafAt(0, a))
			for _, acc := range accs {
				want := answer{read: path[:level+1]}
				switch {
				case !a.AF:
					want.f = api.Fault{Kind: api.FaultFlag, Stage: 2, Level: level, Page: 0o1234}
				case !is(acc):
					want.f = api.Fault{Kind: api.FaultPerm, Stage: 2, Level: level, Page: 0o1234}
				default:
					want.h = api.Hit{Frame: 0o1234 % sizes[level], Mid: 0o1234, Attr: a, Level: level}
				}
				checkMid(t, "attributes", g.Mem, on(3), 0o1234, acc, want)
			}
		}
	}
}

// P7.1: walk.Walk's faults at each level, ahead of perm.Flag's, for each access; what was read is told.
func TestMidWalkFaults(t *testing.T) {
	path := []int{0, 2, 1, 3}
	g := groundOf(40)
	for level := range 3 {
		g.lay(2, level, path[level], 0o4321, tableAt(path[level+1]))
	}
	for level := range 4 {
		for _, acc := range accs {
			f := api.Fault{Kind: api.FaultTrans, Stage: 2, Level: level, Page: 0o4321}
			m := g.but(2, level, path[level], 0o4321, api.Desc{Note: 5})
			checkMid(t, "a note", m, on(0), 0o4321, acc, answer{f: f, read: path[:level+1]})
			f.Kind = api.FaultSize
			if level > 0 {
				m = g.but(2, level, path[level], 0o4321, leafAt(64, api.Attr{}))
				checkMid(t, "a leaf beyond", m, on(0), 0o4321, acc, answer{f: f, read: path[:level+1]})
			}
			if level < 3 {
				f.Level++
				m = g.but(2, level, path[level], 0o4321, tableAt(40))
				checkMid(t, "a table beyond", m, on(0), 0o4321, acc, answer{f: f, read: path[:level+1]})
			}
		}
	}
	for _, frame := range []int{40, 41, 64, 4095} {
		f := api.Fault{Kind: api.FaultSize, Stage: 2, Page: 0o4321}
		checkMid(t, "no first table", g.Mem, on(frame), 0o4321, api.AccRead, answer{f: f})
	}
}

// P7.2, example 1: both off: the page itself.
func TestTransBothOff(t *testing.T) {
	for _, frames := range []int{1, 24, 64} {
		g := groundOf(frames)
		for _, acc := range accs {
			for page := range 4096 {
				want := answer{h: api.Hit{Frame: page, Mid: page, Attr: all, Level: 3}}
				if page >= frames {
					want = answer{f: api.Fault{Kind: api.FaultSize, Stage: 2, Page: page}}
				}
				checkTrans(t, "both off", g.Mem, api.Root{Frame: 4095}, api.Root{Frame: page}, page, acc, want)
			}
		}
	}
}

// P7.2: stage 1 not on: Mid of the page, for the access; without Soft, at level 3, whatever stage 2's is; its fault without Walk.
func TestTransOneOff(t *testing.T) {
	g := groundOf(64)
	g.lay(2, 0, 1, 0, tableAt(2))
	g.lay(2, 1, 2, 0, tableAt(3))
	g.lay(2, 1, 2, 0o0100, leafAt(0, api.Attr{R: true, W: true, AF: true, Soft: 9}))
	g.lay(2, 2, 3, 0, tableAt(4))
	g.lay(2, 2, 3, 0o0010, leafAt(40, api.Attr{X: true, AF: true, Soft: 1}))
	g.lay(2, 3, 4, 5, leafAt(33, api.Attr{R: true, X: true, AF: true, Soft: 15}))
	g.lay(2, 3, 4, 6, leafAt(34, api.Attr{R: true, W: true, X: true, Soft: 2}))
	fault := func(kind, level, page int) api.Fault {
		return api.Fault{Kind: kind, Stage: 2, Level: level, Page: page}
	}
	for _, c := range []struct {
		page, acc int
		want      answer
	}{
		{0o0152, api.AccWrite, answer{h: api.Hit{Frame: 0o52, Mid: 0o0152, Attr: attr("rwa"), Level: 3}, read: []int{1, 2}}},
		{0o0152, api.AccExec, answer{f: fault(api.FaultPerm, 1, 0o0152), read: []int{1, 2}}},
		{0o0013, api.AccExec, answer{h: api.Hit{Frame: 43, Mid: 0o0013, Attr: attr("xa"), Level: 3}, read: []int{1, 2, 3}}},
		{0o0013, api.AccRead, answer{f: fault(api.FaultPerm, 2, 0o0013), read: []int{1, 2, 3}}},
		{5, api.AccRead, answer{h: api.Hit{Frame: 33, Mid: 5, Attr: attr("rxa"), Level: 3}, read: []int{1, 2, 3, 4}}},
		{5, api.AccWrite, answer{f: fault(api.FaultPerm, 3, 5), read: []int{1, 2, 3, 4}}},
		{6, api.AccWrite, answer{f: fault(api.FaultFlag, 3, 6), read: []int{1, 2, 3, 4}}},
		{7, api.AccWrite, answer{f: fault(api.FaultTrans, 3, 7), read: []int{1, 2, 3, 4}}},
		{0o1000, api.AccRead, answer{f: fault(api.FaultTrans, 0, 0o1000), read: []int{1}}},
	} {
		for _, frame := range []int{0, 1, 63, 64, 4095} {
			checkTrans(t, "one off", g.Mem, api.Root{Frame: frame}, on(1), c.page, c.acc, c.want)
		}
	}
}

// P7.2: four tables, each by a walk of four tables, and a walk for the page: 24 frames are read, in order.
func TestTransCourse(t *testing.T) {
	g := course()
	want := answer{h: api.Hit{Frame: courseEnd, Mid: courseMids[4], Attr: all, Level: 3}, read: courseWay}
	for _, acc := range accs {
		checkTrans(t, "the course", g.Mem, courseOne(), courseTwo(), coursePage, acc, want)
	}
	for level, page := range []int{0o6654, 0o7554, 0o7664, 0o7653} {
		f := api.Fault{Kind: api.FaultTrans, Stage: 1, Level: level, Page: page}
		checkTrans(t, "beside it", g.Mem, courseOne(), courseTwo(), page, api.AccRead, answer{f: f, read: courseWay[:5*level+5]})
	}
}

// P7.2: tags do not count, whatever they are, at either stage, On or not.
func TestTagsDoNotCount(t *testing.T) {
	g := course()
	for _, a := range anyTags {
		for _, b := range anyTags {
			one, two := courseOne(), courseTwo()
			one.Tag, two.Tag = a, b
			want := answer{h: api.Hit{Frame: courseEnd, Mid: courseMids[4], Attr: all, Level: 3}, read: courseWay}
			checkTrans(t, "tags", g.Mem, one, two, coursePage, api.AccRead, want)
			want = answer{h: api.Hit{Frame: courseEnd, Mid: courseMids[4], Attr: all, Level: 3}, read: courseWay[20:]}
			checkMid(t, "tags", g.Mem, two, courseMids[4], api.AccRead, want)
			want = answer{h: api.Hit{Frame: 5, Mid: 5, Attr: all, Level: 3}}
			checkTrans(t, "tags", g.Mem, api.Root{Tag: a}, api.Root{Tag: b}, 5, api.AccRead, want)
		}
	}
}

// P7.2: the tables of stage 1 are read where stage 2 is not on, too: each at its own page.
func TestTransTwoOff(t *testing.T) {
	g := groundOf(30)
	path := []int{7, 3, 9, 1}
	for level := range 3 {
		g.lay(1, level, path[level], 0o2461, tableAt(path[level+1]))
	}
	g.lay(1, 3, 1, 0o2461, leafAt(29, attr("rxan")))
	h := api.Hit{Frame: 29, Mid: 29, Attr: attr("rxan"), Level: 3}
	checkTrans(t, "a page", g.Mem, on(7), api.Root{}, 0o2461, api.AccExec, answer{h: h, read: path})
	f := api.Fault{Kind: api.FaultPerm, Stage: 1, Level: 3, Page: 0o2461}
	checkTrans(t, "a page", g.Mem, on(7), api.Root{}, 0o2461, api.AccWrite, answer{f: f, read: path})
	for _, far := range []int{30, 31, 63, 64, 4095} {
		f = api.Fault{Kind: api.FaultSize, Stage: 2, Page: far}
		m := g.but(1, 3, 1, 0o2461, leafAt(far, all))
		checkTrans(t, "a page beyond", m, on(7), api.Root{}, 0o2461, api.AccWrite, answer{f: f, read: path})
		f.Walk = true
		checkTrans(t, "no first table", g.Mem, on(far), api.Root{}, 0o2461, api.AccWrite, answer{f: f})
		for level := range 3 {
			m = g.but(1, level, path[level], 0o2461, tableAt(far))
			checkTrans(t, "a table beyond", m, on(7), api.Root{}, 0o2461, api.AccWrite, answer{f: f, read: path[:level+1]})
		}
	}
}

// P7.2: stage 1's leaves: the page's bits within them, at their level, come to the intermediate page.
func TestTransLeaves(t *testing.T) {
	g := course()
	for level := 1; level <= 3; level++ {
		read := slices.Concat(courseWay[:5*level+5], courseWay[20:])
		first := courseMids[4] / sizes[level] * sizes[level]
		a := attr("rwan")
		m := g.but(1, level, 16+level, coursePage, leafAt(first, a))
		want := answer{h: api.Hit{Frame: courseEnd, Mid: courseMids[4], Attr: a, Level: level}, read: read}
		checkTrans(t, "a leaf", m, courseOne(), courseTwo(), coursePage, api.AccWrite, want)
		// The page beside it, within the leaf: the next intermediate page, which is none of stage 2's; at level 3 there is no such page.
		if level < 3 {
			f := api.Fault{Kind: api.FaultTrans, Stage: 2, Level: 3, Page: courseMids[4] + 1}
			checkTrans(t, "beside it", m, courseOne(), courseTwo(), coursePage+1, api.AccRead, answer{f: f, read: read})
		}
	}
}

// P7.2: a leaf at the end of all pages: no sum goes beyond them.
func TestTransLastPages(t *testing.T) {
	for level := 1; level <= 3; level++ {
		g := groundOf(5)
		for l := range level {
			g.lay(1, l, l, 4095, tableAt(l+1))
		}
		g.lay(1, level, level, 4095, leafAt(4096-sizes[level], all))
		f := api.Fault{Kind: api.FaultSize, Stage: 2, Page: 4095}
		checkTrans(t, "the last page", g.Mem, on(0), api.Root{}, 4095, api.AccRead, answer{f: f, read: []int{0, 1, 2, 3}[:level+1]})
	}
}

// P7.2: what stage 1 lacks or forbids at each level: its own fault, with the page; stage 2 is not asked of what the leaf leads to.
func TestTransStageOneFaults(t *testing.T) {
	g := course()
	for level := range 4 {
		read := courseWay[:5*level+5]
		f := api.Fault{Kind: api.FaultTrans, Stage: 1, Level: level, Page: coursePage}
		m := g.but(1, level, 16+level, coursePage, api.Desc{})
		checkTrans(t, "nothing", m, courseOne(), courseTwo(), coursePage, api.AccRead, answer{f: f, read: read})
		if level == 0 {
			continue
		}
		for i, c := range []struct {
			a    string
			acc  int
			kind int
		}{
			{"r", api.AccRead, api.FaultFlag}, {"rwx", api.AccWrite, api.FaultFlag}, {"rwxn", api.AccExec, api.FaultFlag},
			{"ra", api.AccWrite, api.FaultPerm}, {"rxa", api.AccWrite, api.FaultPerm}, {"rwan", api.AccExec, api.FaultPerm},
			{"r", api.AccWrite, api.FaultFlag},
		} {
			f.Kind = c.kind
			for _, first := range []int{0, 4032} { // stage 2 has neither
				m = g.but(1, level, 16+level, coursePage, leafAt(first, attr(c.a)))
				checkTrans(t, fmt.Sprint("forbidden ", i), m, courseOne(), courseTwo(), coursePage, c.acc, answer{f: f, read: read})
			}
		}
	}
}

// P7.2: what stage 2 lacks or forbids at each of its levels, of each table of stage 1 (Walk) and of the page (none): its own fault, with the intermediate page.
func TestTransStageTwoFaults(t *testing.T) {
	g := course()
	for k, page := range courseMids {
		for level := range 4 {
			at := courseWay[5*k+level]
			broken := func(name string, d api.Desc, kind, at2 int) {
				t.Helper()
				m := g.but(2, level, at, page, d)
				f := api.Fault{Kind: kind, Stage: 2, Level: at2, Walk: k < 4, Page: page}
				checkTrans(t, name, m, courseOne(), courseTwo(), coursePage, api.AccRead, answer{f: f, read: courseWay[:5*k+level+1]})
			}
			broken("nothing", api.Desc{}, api.FaultTrans, level)
			broken("a note", api.Desc{Note: 7}, api.FaultTrans, level)
			if level < 3 {
				broken("a table beyond", tableAt(courseFrames), api.FaultSize, level+1)
			}
			if level > 0 {
				broken("a leaf beyond", leafAt(64, all), api.FaultSize, level)
				broken("not yet", leafAt(0, attr("rwx")), api.FaultFlag, level)
				broken("not for reading", leafAt(0, attr("wxa")), api.FaultPerm, level)
			}
		}
	}
}

// P7.2: tables of stage 1 are asked for reading alone, whatever the access is; the page for the access alone.
func TestTransWhichAccess(t *testing.T) {
	for _, acc := range accs {
		for k, page := range courseMids {
			for _, right := range []string{"r", "w", "x"} {
				m := course().but(2, 3, 3*k+3, page, leafAt(16+k, attr(right+"a")))
				want := answer{h: api.Hit{Frame: courseEnd, Mid: courseMids[4], Attr: all, Level: 3}, read: courseWay}
				if k == 4 {
					want.h.Attr = attr(right + "a")
				}
				if k < 4 && right != "r" || k == 4 && right != "rwx"[acc:acc+1] {
					f := api.Fault{Kind: api.FaultPerm, Stage: 2, Level: 3, Walk: k < 4, Page: page}
					want = answer{f: f, read: courseWay[:5*k+4]}
				}
				checkTrans(t, right, m, courseOne(), courseTwo(), coursePage, acc, want)
			}
		}
	}
}

// P7.2: the Hit has what both stages let be, NG of stage 1's, no Soft; what the leaves of its tables have counts nowhere.
func TestTransAttr(t *testing.T) {
	for bits := range 1 << 8 {
		is := func(k int) bool { return bits>>k%2 == 1 }
		one := api.Attr{R: true, W: is(0), X: is(1), AF: true, NG: is(2)}
		two := api.Attr{R: is(3), W: is(4), X: is(5), AF: true, Soft: bits >> 6 * 5}
		g := course()
		g.lay(1, 3, 19, coursePage, leafAt(courseMids[4], one))
		g.lay(2, 3, 15, courseMids[4], leafAt(courseEnd, two))
		for k := range 4 {
			g.lay(2, 3, 3*k+3, courseMids[k], leafAt(16+k, api.Attr{R: true, AF: true, Soft: 15}))
		}
		may := api.Attr{R: is(3), W: is(0) && is(4), X: is(1) && is(5), AF: true, NG: is(2)}
		for _, acc := range accs {
			want := answer{h: api.Hit{Frame: courseEnd, Mid: courseMids[4], Attr: may, Level: 3}, read: courseWay}
			switch {
			case ![]bool{true, is(0), is(1)}[acc]:
				want = answer{f: api.Fault{Kind: api.FaultPerm, Stage: 1, Level: 3, Page: coursePage}, read: courseWay[:20]}
			case ![]bool{is(3), is(4), is(5)}[acc]:
				want = answer{f: api.Fault{Kind: api.FaultPerm, Stage: 2, Level: 3, Page: courseMids[4]}, read: courseWay}
			}
			checkTrans(t, "attributes", g.Mem, courseOne(), courseTwo(), coursePage, acc, want)
		}
	}
}

// P7.2: a frame may be a table of both stages, and of all levels: it is told as often as it is read.
func TestTransInCircles(t *testing.T) {
	g := groundOf(1)
	g.lay(2, 0, 0, 0, tableAt(0)) // at level 3 a leaf of either stage, which may not be accessed yet
	f := api.Fault{Kind: api.FaultFlag, Stage: 2, Level: 3, Walk: true}
	checkTrans(t, "to itself", g.Mem, on(0), on(0), 0, api.AccRead, answer{f: f, read: []int{0, 0, 0, 0}})
	f = api.Fault{Kind: api.FaultFlag, Stage: 1, Level: 3}
	checkTrans(t, "to itself", g.Mem, on(0), api.Root{}, 0, api.AccRead, answer{f: f, read: []int{0, 0, 0, 0}})
}

// badMems are memories that may not be: no words, no whole frames, too many.
func badMems() (l []api.Mem) {
	l = append(l, api.Mem{}, api.Mem{Words: []uint64{}})
	for _, n := range []int{1, 7, 9, 15, 17, 8*64 - 1, 8*64 + 1, 8 * 65, 8 * 128} {
		l = append(l, api.Mem{Words: make([]uint64, n)})
	}
	return l
}

// unlawful says that both calls tell ErrForm, and nothing beside it, On or not.
func unlawful(t *testing.T, m api.Mem, frame, page, acc int) {
	t.Helper()
	want := answer{e: api.ErrForm}
	for _, two := range []api.Root{{Frame: frame}, on(frame)} {
		checkMid(t, "unlawful", m, two, page, acc, want)
		for _, one := range []api.Root{{}, on(0), on(4095), {Frame: 4095}, {Frame: -1}, on(4096)} {
			checkTrans(t, "unlawful", m, one, two, page, acc, want)
		}
	}
}

// P7.1, P7.2, R4: ErrForm of a memory, of stage 2's root, of a page and of an access that may not be, alone and together.
func TestForm(t *testing.T) {
	g := course()
	for _, m := range []api.Mem{g.Mem, groundOf(1).Mem, groundOf(64).Mem} {
		for _, bad := range badPages {
			for _, acc := range append(badAccs, accs...) {
				unlawful(t, m, bad, coursePage, acc)
				unlawful(t, m, 0, bad, acc)
				unlawful(t, m, bad, bad, acc)
			}
		}
		for _, acc := range badAccs {
			for _, page := range []int{0, 5, coursePage, 4095} {
				unlawful(t, m, 0, page, acc)
				unlawful(t, m, 4095, page, acc)
			}
		}
	}
	for _, m := range badMems() {
		for _, page := range []int{-1, 0, 1, 4095, 4096} {
			unlawful(t, m, 0, page, api.AccRead)
			unlawful(t, m, page, 0, api.AccExec)
			unlawful(t, m, 0, page, 3)
		}
	}
}

// P7.2, R4: ErrForm of stage 1's root, On or not, also where stage 2 leads nowhere.
func TestTransRootForm(t *testing.T) {
	for _, m := range []api.Mem{course().Mem, groundOf(1).Mem} {
		for _, bad := range badPages {
			for _, one := range []api.Root{{Frame: bad}, on(bad)} {
				for _, two := range []api.Root{{}, on(0), on(4095)} {
					for _, page := range []int{0, coursePage, 4095} {
						checkTrans(t, "no root", m, one, two, page, api.AccRead, answer{e: api.ErrForm})
					}
				}
			}
		}
	}
}

// P7.1, P7.2: each frame from the memory's end to MaxPage is one that a root may have.
func TestRootsBeyond(t *testing.T) {
	for _, frames := range []int{1, 24, 64} {
		g := groundOf(frames)
		for frame := frames; frame < 4096; frame++ {
			f := api.Fault{Kind: api.FaultSize, Stage: 2, Page: 4095 - frame}
			checkMid(t, "stage 2", g.Mem, on(frame), 4095-frame, api.AccExec, answer{f: f})
			checkTrans(t, "stage 2 alone", g.Mem, api.Root{}, on(frame), 4095-frame, api.AccExec, answer{f: f})
			f.Walk, f.Page = true, frame
			checkTrans(t, "stage 1", g.Mem, on(frame), api.Root{}, 0, api.AccExec, answer{f: f})
			f.Page = 0
			checkTrans(t, "both", g.Mem, on(0), on(frame), frame, api.AccExec, answer{f: f})
		}
	}
}

package access_test

import (
	"fmt"
	"math"
	"slices"
	"testing"

	"bulwark/access"
	"bulwark/api"
	"bulwark/desc"
	"bulwark/nest"
)

var (
	accs  = []int{api.AccRead, api.AccWrite, api.AccExec}
	sizes = []int{512, 64, 8, 1} // pages of a leaf, by level
	all   = attr("rwxa")
)

// attr is the attribute of those letters: r, w, x, a (AF), n (NG).
func attr(letters string) (a api.Attr) {
	for _, c := range letters {
		switch c {
		case 'r':
			a.R = true
		case 'w':
			a.W = true
		case 'x':
			a.X = true
		case 'a':
			a.AF = true
		case 'n':
			a.NG = true
		}
	}
	return a
}

// picked is what those letters choose: u (Use), f (Fill), m (Mids), w (Walk); nothing is dropped.
func picked(letters string) api.Pick {
	p := api.Pick{Drop: -1}
	for _, c := range letters {
		switch c {
		case 'u':
			p.Use = true
		case 'f':
			p.Fill = true
		case 'm':
			p.Mids = true
		case 'w':
			p.Walk = true
		}
	}
	return p
}

func dropping(letters string, i int) api.Pick {
	p := picked(letters)
	p.Drop = i
	return p
}

// picks are all that may be chosen, but for what is dropped.
func picks() (l []api.Pick) {
	for bits := range 16 {
		l = append(l, api.Pick{Drop: -1, Use: bits&1 > 0, Fill: bits&2 > 0, Mids: bits&4 > 0, Walk: bits&8 > 0})
	}
	return l
}

// asked is all that Page is called with.
type asked struct {
	m    api.Mem
	t    api.TLB
	one  api.Root
	two  api.Root
	page int
	acc  int
	pick api.Pick
}

// told is all that Page tells.
type told struct {
	frame int
	f     api.Fault
	t     api.TLB
	read  []int
	e     api.Errno
}

func (a asked) call() (b told) {
	b.frame, b.f, b.t, b.read, b.e = access.Page(a.m, a.t, a.one, a.two, a.page, a.acc, a.pick)
	return b
}

func (a told) same(b told) bool {
	return a.frame == b.frame && a.f == b.f && sameTLB(a.t, b.t) && slices.Equal(a.read, b.read) && a.e == b.e
}

func sameTLB(a, b api.TLB) bool {
	return slices.Equal(a.Entries, b.Entries) && slices.Equal(a.Due, b.Due)
}

func (a asked) check(t *testing.T, name string, want told) {
	t.Helper()
	if got := a.call(); !got.same(want) {
		t.Fatalf("%s: %+v, %+v, %+v, %#o, %d, %+v: %+v, not %+v", name, a.t, a.one, a.two, a.page, a.acc, a.pick, got, want)
	}
}

// ground is a memory in which a test lays tables.
type ground struct {
	api.Mem
}

func groundOf(frames int) ground {
	return ground{api.Mem{Words: make([]uint64, frames*8)}}
}

// lay lays a descriptor where a table of that stage and level has the page's.
func (g ground) lay(stage, level, frame, page int, d api.Desc) {
	w, e := desc.Word(stage, level, d)
	if e != api.OK {
		panic(fmt.Sprint("no such descriptor: ", stage, level, d))
	}
	g.Words[frame*8+page/sizes[level]%8] = w
}

// but is a copy with another descriptor at one place.
func (g ground) but(stage, level, frame, page int, d api.Desc) ground {
	x := ground{api.Mem{Words: slices.Clone(g.Words)}}
	x.lay(stage, level, frame, page, d)
	return x
}

func tableAt(frame int) api.Desc { return api.Desc{Kind: api.DescTable, Frame: frame} }

func leafAt(frame int, a api.Attr) api.Desc {
	return api.Desc{Kind: api.DescLeaf, Frame: frame, Attr: a}
}

// Of the course: the page, the intermediate pages of stage 1's four tables and of what the page leads to, and all frames that are read, in order.
const (
	coursePage   = 0o7654
	courseFrames = 64
	courseEnd    = 20
	courseVMID   = 3
	courseASID   = 5
)

var (
	courseMids = []int{0o1234, 0o2345, 0o3456, 0o4567, 0o5654}
	courseWay  = []int{0, 1, 2, 3, 16, 0, 4, 5, 6, 17, 0, 7, 8, 9, 18, 0, 10, 11, 12, 19, 0, 13, 14, 15}
)

// course is a memory in which no two steps of one translation read the same word: stage 2 from frame 0 on, stage 1 in frames 16 to 19, the page in frame 20.
func course() ground {
	g := groundOf(courseFrames)
	for k, page := range courseMids {
		way := []int{0, 3*k + 1, 3*k + 2, 3*k + 3}
		for level := range 3 {
			g.lay(2, level, way[level], page, tableAt(way[level+1]))
		}
		g.lay(2, 3, way[3], page, leafAt(16+k, all))
		if k < 3 {
			g.lay(1, k, 16+k, coursePage, tableAt(courseMids[k+1]))
		}
	}
	g.lay(1, 3, 19, coursePage, leafAt(courseMids[4], all))
	return g
}

// courseAsk reads the course's page.
func courseAsk(l ...api.Entry) asked {
	one := api.Root{On: true, Frame: courseMids[0], Tag: courseASID}
	two := api.Root{On: true, Tag: courseVMID}
	due := []api.Inval{{Kind: api.InvAll}, {Kind: api.InvPage, VMID: courseVMID, ASID: courseASID, Page: coursePage}}
	return asked{m: course().Mem, t: api.TLB{Entries: l, Due: due}, one: one, two: two, page: coursePage, pick: picked("")}
}

// answer is what the course's call tells with those entries left.
func (a asked) answer(frame int, read []int, l ...api.Entry) told {
	return told{frame: frame, t: api.TLB{Entries: l, Due: a.t.Due}, read: read}
}

func (a asked) with(letters string) asked {
	a.pick = picked(letters)
	return a
}

func midEntry(page, frame int, letters string) api.Entry {
	return api.Entry{Kind: api.EntMid, VMID: courseVMID, All: true, Page: page, Frame: frame, Attr: attr(letters)}
}

func walkEntry(page, level, frame int) api.Entry {
	return api.Entry{Kind: api.EntWalk, VMID: courseVMID, ASID: courseASID, Page: page, Level: level, Frame: frame}
}

// wholeEntry is of all address spaces unless n is among the letters.
func wholeEntry(page, frame, mid int, letters string) api.Entry {
	a := attr(letters)
	return api.Entry{Kind: api.EntWhole, VMID: courseVMID, ASID: courseASID, All: !a.NG, Page: page, Frame: frame, Mid: mid, Attr: a}
}

// courseEntries are all that may be remembered of the course's page, in the order of the way.
func courseEntries() []api.Entry {
	return []api.Entry{
		midEntry(courseMids[0], 16, "rwxa"),
		midEntry(courseMids[1], 17, "rwxa"), walkEntry(0o7000, 1, 17),
		midEntry(courseMids[2], 18, "rwxa"), walkEntry(0o7600, 2, 18),
		midEntry(courseMids[3], 19, "rwxa"), walkEntry(0o7650, 3, 19),
		midEntry(courseMids[4], 20, "rwxa"), wholeEntry(coursePage, 20, courseMids[4], "rwxa"),
	}
}

// onlyKind are those of a kind.
func onlyKind(kind int, l []api.Entry) (k []api.Entry) {
	for _, e := range l {
		if e.Kind == kind {
			k = append(k, e)
		}
	}
	return k
}

// P14.1 (4, 5): what is chosen is filled on the way, in order, as far as there is room; by default nothing is.
func TestFills(t *testing.T) {
	l := courseEntries()
	for _, acc := range accs {
		a := courseAsk()
		a.acc = acc
		a.with("").check(t, "nothing chosen", a.answer(courseEnd, courseWay))
		a.with("u").check(t, "asked alone", a.answer(courseEnd, courseWay))
		a.with("f").check(t, "Fill", a.answer(courseEnd, courseWay, l[8]))
		a.with("m").check(t, "Mids", a.answer(courseEnd, courseWay, onlyKind(api.EntMid, l)...))
		a.with("w").check(t, "Walk", a.answer(courseEnd, courseWay, onlyKind(api.EntWalk, l)...))
		a.with("fw").check(t, "Fill, Walk", a.answer(courseEnd, courseWay, l[2], l[4], l[6], l[8]))
		a.with("mw").check(t, "Mids, Walk", a.answer(courseEnd, courseWay, l[:8]...))
		a.with("fmwu").check(t, "all, for which there is no room", a.answer(courseEnd, courseWay, l[:8]...))
	}
}

// P14.1: what is there already stays in its place, and is not filled once more; where there is no room, nothing is filled and all else is the same.
func TestFillsNoMore(t *testing.T) {
	l := courseEntries()
	a := courseAsk(l[6], l[8], l[0])
	a.with("fm").check(t, "some are there", a.answer(courseEnd, courseWay, l[6], l[8], l[0], l[1], l[3], l[5], l[7]))
	var full []api.Entry
	for i := range api.MaxTLB {
		full = append(full, midEntry(i, i, "r"))
	}
	a = courseAsk(full...)
	a.with("fmw").check(t, "full", a.answer(courseEnd, courseWay, full...))
	a.with("ufmw").check(t, "full", a.answer(courseEnd, courseWay, full...))
	for i := range full {
		a.pick = dropping("fw", i)
		left := slices.Delete(slices.Clone(full), i, i+1)
		a.check(t, "one dropped", a.answer(courseEnd, courseWay, append(left, l[2])...))
	}
}

// P14.1 (1): an entry is dropped ahead of all else, by its place alone; other numbers drop nothing.
func TestDrop(t *testing.T) {
	l := []api.Entry{courseEntries()[8], courseEntries()[6], midEntry(courseMids[4], 30, "r")}
	reads := [][]int{{19}, nil, nil}
	frames := []int{30, 20, 20}
	for i := range l {
		a := courseAsk(l...)
		a.pick = dropping("u", i)
		a.check(t, "dropped", a.answer(frames[i], reads[i], slices.Delete(slices.Clone(l), i, i+1)...))
		a.pick = dropping("", i)
		a.check(t, "dropped, not asked", a.answer(courseEnd, courseWay, slices.Delete(slices.Clone(l), i, i+1)...))
	}
	for _, i := range []int{math.MinInt, math.MinInt + 1, -1 << 32, -3, -2, -1, 3, 4, 7, 8, 256, 1 << 32, 1<<32 + 1, math.MaxInt} {
		a := courseAsk(l...)
		a.pick = dropping("u", i)
		a.check(t, "not there", a.answer(20, nil, l...))
		a.t.Entries = nil
		a.check(t, "nothing there", a.answer(courseEnd, courseWay))
	}
	// What is dropped may come again, behind all others.
	a := courseAsk(l...)
	a.pick = dropping("f", 0)
	a.check(t, "and filled", a.answer(courseEnd, courseWay, l[1], l[2], l[0]))
	// Beside a Fault, too.
	a.pick, a.page = dropping("f", 1), 0o6000
	want := a.answer(0, courseWay[:5], l[0], l[2])
	want.f = api.Fault{Kind: api.FaultTrans, Stage: 1, Page: 0o6000}
	a.check(t, "beside a fault", want)
}

// P14.1 (2): a whole entry is believed as it stands, AF or not, and nothing else is done; it must be of the machine, the address space, the page and the access.
func TestWhole(t *testing.T) {
	for _, acc := range accs {
		for _, letters := range []string{"", "r", "w", "x", "rw", "rx", "wx", "rwx", "rwxn", "rwxa", "an"} {
			e := wholeEntry(coursePage, 33, 7, letters)
			a := courseAsk(e)
			a.acc = acc
			may := []bool{e.R, e.W, e.X}[acc]
			if may {
				a.with("u").check(t, letters, a.answer(33, nil, e))
				a.with("ufmw").check(t, letters, a.answer(33, nil, e))
			} else {
				a.with("u").check(t, letters, a.answer(courseEnd, courseWay, e))
			}
			a.with("").check(t, letters, a.answer(courseEnd, courseWay, e))
		}
	}
	for i, c := range []struct {
		vmid, asid, page int
		all, fits        bool
	}{
		{3, 5, coursePage, false, true}, {3, 5, coursePage, true, true}, {3, 6, coursePage, true, true}, {3, 0, coursePage, true, true},
		{3, 6, coursePage, false, false}, {2, 5, coursePage, true, false}, {5, 3, coursePage, true, false}, {3, 5, coursePage + 1, true, false}, {3, 5, coursePage - 8, true, false}, {3, 5, courseMids[4], true, false},
	} {
		e := api.Entry{Kind: api.EntWhole, VMID: c.vmid, ASID: c.asid, All: c.all, Page: c.page, Frame: 33, Attr: all}
		a := courseAsk(e).with("u")
		want := a.answer(courseEnd, courseWay, e)
		if c.fits {
			want = a.answer(33, nil, e)
		}
		a.check(t, fmt.Sprint("whole ", i), want)
	}
	l := []api.Entry{wholeEntry(coursePage, 1, 7, "wxa"), wholeEntry(coursePage, 2, 7, "ra"), wholeEntry(coursePage, 3, 7, "rwa")}
	a := courseAsk(l...).with("u")
	a.check(t, "the first that may", a.answer(2, nil, l...))
}

// P14.1 (3): it begins at the deepest table that is remembered, which is read without asking stage 2, whatever lies there.
func TestWalkEntries(t *testing.T) {
	way := func(level int) []int { return courseWay[5*level+4:] }
	l := onlyKind(api.EntWalk, courseEntries())
	for bits := range 8 {
		var some []api.Entry
		deepest := 0
		for i, e := range l {
			if bits>>i%2 == 1 {
				some = append(some, e)
				deepest = i + 1
			}
		}
		want := courseWay
		if deepest > 0 {
			want = way(deepest)
		}
		a := courseAsk(some...)
		a.with("u").check(t, "forth", a.answer(courseEnd, want, some...))
		a.with("").check(t, "not asked", a.answer(courseEnd, courseWay, some...))
		slices.Reverse(some)
		a.with("u").check(t, "back", a.answer(courseEnd, want, some...))
		// Only what is still to be gone through is filled.
		a.with("uw").check(t, "and filled", a.answer(courseEnd, want, append(slices.Clone(some), l[deepest:]...)...))
	}
	a := courseAsk(walkEntry(0o7650, 3, 20)).with("u")
	a.m = course().but(1, 3, 20, coursePage, leafAt(courseMids[3], all)).Mem
	a.check(t, "another table than memory has", a.answer(19, []int{20, 0, 10, 11, 12}, a.t.Entries...))
	first, second := walkEntry(0o7650, 3, 20), walkEntry(0o7650, 3, 19)
	a.t.Entries = []api.Entry{first, second}
	a.check(t, "the first of two", a.answer(19, []int{20, 0, 10, 11, 12}, first, second))
	a.t.Entries = []api.Entry{second, first}
	a.check(t, "the first of two", a.answer(courseEnd, way(3), second, first))
	// Stage 2 no longer lets that table be read: it is not asked.
	a = courseAsk(second).with("u")
	a.m = course().but(2, 3, 12, courseMids[3], leafAt(19, attr("wx"))).Mem
	a.check(t, "not to be read", a.answer(courseEnd, way(3), second))
}

// P14.1 (3, 4): a table that is remembered for all address spaces is begun at, and not filled for this one: no Mid of it is translated.
func TestWalkEntryOfAll(t *testing.T) {
	for _, asid := range []int{0, courseASID, 15} {
		e := walkEntry(0o7600, 2, 18)
		e.All, e.ASID = true, asid
		a := courseAsk(e).with("uw")
		a.check(t, "of all", a.answer(courseEnd, courseWay[14:], e, walkEntry(0o7650, 3, 19)))
		a.with("w").check(t, "of all, not asked", a.answer(courseEnd, courseWay, append([]api.Entry{e}, onlyKind(api.EntWalk, courseEntries())...)...))
		e.All = false
		a.t.Entries = []api.Entry{e}
		if asid != courseASID {
			a.check(t, "of another", a.answer(courseEnd, courseWay, append([]api.Entry{e}, onlyKind(api.EntWalk, courseEntries())...)...))
		}
	}
	for i, e := range []api.Entry{
		{Kind: api.EntWalk, VMID: 2, ASID: courseASID, Page: 0o7650, Level: 3, Frame: 19}, {Kind: api.EntWalk, VMID: 2, All: true, Page: 0o7650, Level: 3, Frame: 19},
		walkEntry(0o7640, 3, 19), walkEntry(0o7660, 3, 19), walkEntry(0o7500, 2, 18), walkEntry(0o7700, 2, 18), walkEntry(0o6000, 1, 17), walkEntry(0, 1, 17),
	} {
		a := courseAsk(e).with("u")
		a.check(t, fmt.Sprint("not of this one: ", i), a.answer(courseEnd, courseWay, e))
	}
}

// P14.1 (3): each Mid that is remembered for its access is believed as it stands, AF or not; a table is asked for reading, the page for its access.
func TestMidEntries(t *testing.T) {
	ends := []int{16, 17, 18, 19, 20}
	for k, page := range courseMids {
		for _, letters := range []string{"", "r", "w", "x", "rx", "wxa", "rwxa"} {
			for _, acc := range accs {
				e := midEntry(page, ends[k], letters)
				a := courseAsk(e).with("u")
				a.acc = acc
				asks := api.AccRead
				if k == 4 {
					asks = acc
				}
				want := courseWay
				if []bool{e.R, e.W, e.X}[asks] {
					want = slices.Concat(courseWay[:5*k], courseWay[5*k+4:])
				}
				a.check(t, letters, a.answer(courseEnd, want, e))
				a.with("").check(t, letters, a.answer(courseEnd, courseWay, e))
				e.VMID = 2
				a.t.Entries = []api.Entry{e}
				a.check(t, "another machine's", a.answer(courseEnd, courseWay, e))
			}
		}
	}
	// The ASID that an entry is asked by does not count, nor do those pages' numbers at stage 1.
	l := []api.Entry{midEntry(coursePage, 40, "rwxa"), midEntry(courseMids[4], 41, "wa"), midEntry(courseMids[4], 42, "ra"), midEntry(courseMids[4], 43, "rwa")}
	a := courseAsk(l...).with("u")
	a.check(t, "the first that may", a.answer(42, courseWay[:20], l...))
	a.acc = api.AccExec
	a.check(t, "none that may", a.answer(courseEnd, courseWay, l...))
	a.acc = api.AccWrite
	a.check(t, "the first that may", a.answer(41, courseWay[:20], l...))
}

// P14.1 (5): a whole entry has both stages' attributes, NG of stage 1's, no Soft; All tells NG. What is remembered of stage 2 counts as it stands.
func TestWholeHasBoth(t *testing.T) {
	for bits := range 1 << 8 {
		is := func(k int) bool { return bits>>k%2 == 1 }
		up := api.Attr{R: true, W: is(0), X: is(1), AF: true, NG: is(2)}
		down := api.Attr{R: true, W: is(3), X: is(4), AF: true, Soft: bits >> 5 * 2}
		a := courseAsk().with("fm")
		g := course().but(1, 3, 19, coursePage, leafAt(courseMids[4], up)).but(2, 3, 15, courseMids[4], leafAt(courseEnd, down))
		a.m = g.Mem
		e := wholeEntry(coursePage, courseEnd, courseMids[4], "ra")
		e.W, e.X, e.NG, e.All = is(0) && is(3), is(1) && is(4), is(2), !is(2)
		mids := onlyKind(api.EntMid, courseEntries())
		mids[4].Attr = down
		mids[4].Soft = 0
		a.check(t, "both", a.answer(courseEnd, courseWay, append(mids, e)...))
		down.Soft, down.AF, e.AF = 0, is(5), is(5)
		m := midEntry(courseMids[4], 44, "")
		m.Attr = down
		a = courseAsk(m).with("uf")
		a.m, e.Frame = g.Mem, 44
		a.check(t, "remembered", a.answer(44, courseWay[:20], m, e))
	}
}

// P14.1 (5): leaves of levels 1 and 2: an entry is of the one page, with its intermediate page and its frame.
func TestWholeOfBlocks(t *testing.T) {
	for level := 1; level <= 2; level++ {
		for _, down := range []int{1, 2, 3} {
			a := courseAsk().with("fw")
			first := courseMids[4] / sizes[level] * sizes[level]
			g := course().but(1, level, 16+level, coursePage, leafAt(first, attr("rwan")))
			frame, read := courseEnd, courseWay[20:]
			if down < 3 {
				g = g.but(2, down, []int{0, 13, 14}[down], courseMids[4], leafAt(0, all))
				frame, read = courseMids[4]%sizes[down], courseWay[20:20+down+1]
			}
			a.m = g.Mem
			l := append(onlyKind(api.EntWalk, courseEntries())[:level], wholeEntry(coursePage, frame, courseMids[4], "rwan"))
			a.check(t, "a block", a.answer(frame, slices.Concat(courseWay[:5*level+5], read), l...))
		}
	}
}

// P14.1: a Fault of either stage at each place: what was translated ahead of it is filled, nothing behind it; no Frame.
func TestFaults(t *testing.T) {
	l := courseEntries()
	check := func(name string, g ground, acc int, f api.Fault, read []int, left ...api.Entry) {
		t.Helper()
		a := courseAsk().with("fmw")
		a.m, a.acc = g.Mem, acc
		want := a.answer(0, read, left...)
		want.f = f
		a.check(t, name, want)
		a.with("fmwu").check(t, name, want)
	}
	for level := range 4 {
		g, at := course(), 16+level
		f := api.Fault{Kind: api.FaultTrans, Stage: 1, Level: level, Page: coursePage}
		read, left := courseWay[:5*level+5], l[:2*level+1]
		check("nothing", g.but(1, level, at, coursePage, api.Desc{}), api.AccRead, f, read, left...)
		if level > 0 {
			f.Kind = api.FaultFlag
			check("not yet", g.but(1, level, at, coursePage, leafAt(0, attr("rwx"))), api.AccRead, f, read, left...)
			f.Kind = api.FaultPerm
			check("forbidden", g.but(1, level, at, coursePage, leafAt(0, attr("rxa"))), api.AccWrite, f, read, left...)
			check("forbidden", g.but(1, level, at, coursePage, leafAt(0, attr("rwa"))), api.AccExec, f, read, left...)
		}
	}
	for k, page := range courseMids {
		for level := range 4 {
			g, at := course(), courseWay[5*k+level]
			f := api.Fault{Kind: api.FaultTrans, Stage: 2, Level: level, Walk: k < 4, Page: page}
			read, left := courseWay[:5*k+level+1], l[:max(0, 2*k-1)]
			check("nothing", g.but(2, level, at, page, api.Desc{Note: 3}), api.AccRead, f, read, left...)
			if level > 0 {
				f.Kind = api.FaultFlag
				check("not yet", g.but(2, level, at, page, leafAt(0, attr("rwx"))), api.AccRead, f, read, left...)
				f.Kind = api.FaultPerm
				check("forbidden", g.but(2, level, at, page, leafAt(0, attr("wxa"))), api.AccRead, f, read, left...)
				f.Kind = api.FaultSize
				check("a leaf beyond", g.but(2, level, at, page, leafAt(64, all)), api.AccRead, f, read, left...)
			}
		}
	}
}

// P14.1: what stage 1 lacks or forbids behind a remembered table: at the level that it has.
func TestFaultsBehindEntries(t *testing.T) {
	for level := 1; level <= 3; level++ {
		e := onlyKind(api.EntWalk, courseEntries())[level-1]
		a := courseAsk(e).with("ufmw")
		a.m = course().but(1, level, 16+level, coursePage, api.Desc{}).Mem
		want := a.answer(0, []int{16 + level}, e)
		want.f = api.Fault{Kind: api.FaultTrans, Stage: 1, Level: level, Page: coursePage}
		a.check(t, "nothing", want)
		a.m = course().but(1, level, 16+level, coursePage, leafAt(0, attr("ra"))).Mem
		a.acc, want.f.Kind = api.AccWrite, api.FaultPerm
		a.check(t, "forbidden", want)
	}
	// A remembered page of stage 2 does not let more be than stage 1 does.
	a := courseAsk(midEntry(courseMids[4], 33, "rwxa")).with("u")
	a.m = course().but(1, 3, 19, coursePage, leafAt(courseMids[4], attr("rx"))).Mem
	want := a.answer(0, courseWay[:20], a.t.Entries...)
	want.f = api.Fault{Kind: api.FaultFlag, Stage: 1, Level: 3, Page: coursePage}
	a.check(t, "not yet", want)
}

// P14.1: what is filled on the way is asked on the way: a table that leads to itself.
func TestAskedOnTheWay(t *testing.T) {
	g := groundOf(24)
	for level := range 3 {
		g.lay(2, level, level, 0, tableAt(level+1))
		g.lay(1, level, 8, 0, tableAt(0))
	}
	g.lay(2, 3, 3, 0, leafAt(8, all))
	a := asked{m: g.Mem, one: api.Root{On: true}, two: api.Root{On: true}}
	down := []int{0, 1, 2, 3, 8}
	long := slices.Concat(down, down, down, down)
	want := told{f: api.Fault{Kind: api.FaultFlag, Stage: 1, Level: 3}, read: long}
	a.with("u").check(t, "nothing filled", want)
	mid := api.Entry{Kind: api.EntMid, All: true, Frame: 8, Attr: all}
	want.t.Entries = []api.Entry{mid}
	a.with("m").check(t, "not asked", want)
	want.read = append(slices.Clone(down), 8, 8, 8)
	a.with("um").check(t, "asked", want)
	want.read = []int{8, 8, 8, 8}
	a.t.Entries = want.t.Entries
	a.with("um").check(t, "asked again", want)
}

// P14.1: stage 1 not on: stage 2 alone, from memory or from what is remembered of it; no table and nothing whole is asked or filled.
func TestOneOff(t *testing.T) {
	page := courseMids[4]
	for _, letters := range []string{"", "u", "f", "w", "m", "ufw", "ufmw"} {
		for _, acc := range accs {
			a := courseAsk(wholeEntry(page, 30, 1, "rwxa"), walkEntry(page/8*8, 3, 31), wholeEntry(page, 32, 1, "rwxan")).with(letters)
			a.one.On, a.page, a.acc = false, page, acc
			want := a.answer(courseEnd, courseWay[20:], a.t.Entries...)
			if a.pick.Mids {
				want.t.Entries = append(slices.Clone(a.t.Entries), midEntry(page, courseEnd, "rwxa"))
			}
			a.check(t, letters, want)
			e := midEntry(page, 33, "wx")
			a.t.Entries = []api.Entry{e}
			want = a.answer(33, nil, e)
			if !a.pick.Use || acc == api.AccRead {
				want = a.answer(courseEnd, courseWay[20:], e)
				if a.pick.Mids {
					want.t.Entries = append(want.t.Entries, midEntry(page, courseEnd, "rwxa"))
				}
			}
			a.check(t, letters, want)
		}
	}
	a := courseAsk().with("ufmw")
	a.one.On = false
	want := a.answer(0, courseWay[:1])
	want.f = api.Fault{Kind: api.FaultTrans, Stage: 2, Page: coursePage}
	a.check(t, "nothing", want)
}

// The chapter's example: Fill, then Use: nothing is read. With each access, and as other processors' numbers stand in Pick.
func TestFillThenUse(t *testing.T) {
	for _, acc := range accs {
		a := courseAsk().with("f")
		a.acc, a.pick.CPU = acc, math.MinInt
		a.t = a.call().t
		for _, letters := range []string{"u", "uf", "ufmw"} {
			a = a.with(letters)
			a.check(t, letters, a.answer(courseEnd, nil, courseEntries()[8]))
			if h, _, _, _ := nest.Trans(a.m, a.one, a.two, a.page, acc); h.Frame != courseEnd {
				t.Errorf("nest.Trans: %+v", h)
			}
		}
	}
}

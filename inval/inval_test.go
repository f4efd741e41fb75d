package inval_test

import (
	"math"
	"slices"
	"testing"

	"bulwark/api"
	"bulwark/inval"
	"bulwark/tlb"
)

var all = api.Attr{R: true, W: true, X: true, AF: true}

func whole(vmid, asid, page, frame int) api.Entry {
	return api.Entry{Kind: api.EntWhole, VMID: vmid, ASID: asid, Page: page, Frame: frame, Mid: 9, Attr: all}
}

func middle(vmid, page, frame int) api.Entry {
	return api.Entry{Kind: api.EntMid, VMID: vmid, All: true, Page: page, Frame: frame, Attr: all}
}

func table(vmid, asid, page, level, frame int) api.Entry {
	return api.Entry{Kind: api.EntWalk, VMID: vmid, ASID: asid, Page: page, Level: level, Frame: frame}
}

// ofAll is an entry of all address spaces.
func ofAll(e api.Entry) api.Entry {
	e.All = true
	return e
}

// bad has numbers that are none, whether of 15 or of 4095; some come back among those that are where bits are lost.
func bad(most int) []int {
	return []int{math.MinInt, math.MinInt + 1, -1 << 32, -most - 1, -most, -2, -1, most + 1, most + 2, 2*most + 2, 1 << 16, 1 << 32, 1<<32 + 1, 1 << 52, 1 << 62, math.MaxInt - most, math.MaxInt}
}

func isIn(n, most int) bool {
	return 0 <= n && n <= most
}

// digits are a page's places in the tables of levels 0 to 3.
func digits(page int) [4]int {
	return [4]int{page / 512, page / 64 % 8, page / 8 % 8, page % 8}
}

// slowInval says whether what takes away may be, in chapter 9's words.
func slowInval(i api.Inval) bool {
	return isIn(i.Kind-1, 5) && isIn(i.VMID, 15) && isIn(i.ASID, 15) && isIn(i.Page, 4095)
}

// slowEntry says whether an entry may be, in chapter 9's words.
func slowEntry(e api.Entry) bool {
	if !isIn(e.VMID, 15) || !isIn(e.ASID, 15) || !isIn(e.Page, 4095) || !isIn(e.Frame, 4095) || !isIn(e.Mid, 4095) || e.Soft != 0 {
		return false
	}
	if e.Kind == api.EntWhole {
		return e.Level == 0
	}
	if e.Kind == api.EntMid {
		return e.ASID == 0 && e.All && e.Level == 0 && e.Mid == 0 && !e.NG
	}
	if e.Kind != api.EntWalk || !isIn(e.Level-1, 2) || e.Mid != 0 || e.Attr != (api.Attr{}) {
		return false
	}
	for level, i := range digits(e.Page) {
		if level >= e.Level && i != 0 {
			return false
		}
	}
	return true
}

func slowTLB(t api.TLB) bool {
	if len(t.Entries) > 8 || len(t.Due) > 8 {
		return false
	}
	for k, e := range t.Entries {
		if !slowEntry(e) || slices.Contains(t.Entries[k+1:], e) {
			return false
		}
	}
	return !slices.ContainsFunc(t.Due, func(i api.Inval) bool { return !slowInval(i) })
}

// onTheWay says whether a table of that level and of that page is on the way to another one.
func onTheWay(level, page, to int) bool {
	from, way := digits(page), digits(to)
	return slices.Equal(from[:level], way[:level])
}

// slowTakes says of what may be whether it is taken away, in the document's words.
func slowTakes(i api.Inval, e api.Entry) bool {
	isWhole, isMid, isWalk := e.Kind == api.EntWhole, e.Kind == api.EntMid, e.Kind == api.EntWalk
	if i.Kind == api.InvAll {
		return true
	}
	if i.VMID != e.VMID {
		return false
	}
	if i.Kind == api.InvVM {
		return true
	}
	if i.Kind == api.InvStage {
		return isWhole || isWalk
	}
	if i.Kind == api.InvASID {
		return (isWhole || isWalk) && !e.All && e.ASID == i.ASID
	}
	if i.Kind == api.InvPage {
		asked := isWhole && e.Page == i.Page || isWalk && onTheWay(e.Level, e.Page, i.Page)
		return asked && (e.All || e.ASID == i.ASID)
	}
	return isMid && e.Page == i.Page
}

func slowApply(t api.TLB, l ...api.Inval) (api.TLB, api.Errno) {
	if !slowTLB(t) || slices.ContainsFunc(l, func(i api.Inval) bool { return !slowInval(i) }) {
		return api.TLB{}, api.ErrForm
	}
	x := api.TLB{Due: t.Due}
	for _, e := range t.Entries {
		if !slices.ContainsFunc(l, func(i api.Inval) bool { return slowTakes(i, e) }) {
			x.Entries = append(x.Entries, e)
		}
	}
	return x, api.OK
}

func slowLater(t api.TLB, i api.Inval) (api.TLB, api.Errno) {
	if !slowTLB(t) || !slowInval(i) {
		return api.TLB{}, api.ErrForm
	}
	if len(t.Due) == 8 {
		return api.TLB{}, api.ErrFull
	}
	return api.TLB{Entries: t.Entries, Due: slices.Concat(t.Due, []api.Inval{i})}, api.OK
}

func slowWait(l []api.TLB, cpu int) ([]api.TLB, api.Errno) {
	if slices.ContainsFunc(l, func(t api.TLB) bool { return !slowTLB(t) }) || cpu < 0 || cpu >= len(l) {
		return nil, api.ErrForm
	}
	var m []api.TLB
	for k, t := range l {
		x, _ := slowApply(t, l[cpu].Due...)
		if k == cpu {
			x.Due = nil
		}
		m = append(m, x)
	}
	return m, api.OK
}

func same(a, b api.TLB) bool {
	return slices.Equal(a.Entries, b.Entries) && slices.Equal(a.Due, b.Due)
}

func sameAll(a, b []api.TLB) bool {
	return slices.EqualFunc(a, b, same)
}

func checkTakes(t *testing.T, i api.Inval, e api.Entry) {
	t.Helper()
	takes, f := inval.Takes(i, e)
	if !slowInval(i) || !slowEntry(e) {
		if takes || f != api.ErrForm {
			t.Fatalf("Takes(%+v, %+v): %v, %d, not ErrForm", i, e, takes, f)
		}
	} else if takes != slowTakes(i, e) || f != api.OK {
		t.Fatalf("Takes(%+v, %+v): %v, %d", i, e, takes, f)
	}
}

func checkApply(t *testing.T, x api.TLB, l ...api.Inval) {
	t.Helper()
	y, e := inval.Apply(x, l...)
	z, f := slowApply(x, l...)
	if !same(y, z) || e != f {
		t.Fatalf("Apply(%+v, %+v): %+v, %d, not %+v, %d", x, l, y, e, z, f)
	}
}

func checkLater(t *testing.T, x api.TLB, i api.Inval) {
	t.Helper()
	y, e := inval.Later(x, i)
	z, f := slowLater(x, i)
	if !same(y, z) || e != f {
		t.Fatalf("Later(%+v, %+v): %+v, %d, not %+v, %d", x, i, y, e, z, f)
	}
}

func checkWait(t *testing.T, l []api.TLB, cpu int) {
	t.Helper()
	m, e := inval.Wait(l, cpu)
	n, f := slowWait(l, cpu)
	if !sameAll(m, n) || e != f {
		t.Fatalf("Wait(%+v, %d): %+v, %d, not %+v, %d", l, cpu, m, e, n, f)
	}
}

// checkBoth asks by Takes and by Apply, which have to tell the same.
func checkBoth(t *testing.T, i api.Inval, e api.Entry) {
	t.Helper()
	checkTakes(t, i, e)
	checkApply(t, api.TLB{Entries: []api.Entry{e}}, i)
}

// example 1: stage 2 alone is forgotten, what came of both stages is not.
func TestExample(t *testing.T) {
	w, m := whole(1, 2, 5, 30), middle(1, 5, 30)
	w.Mid = 5
	i := api.Inval{Kind: api.InvMid, VMID: 1, Page: 5}
	if takes, e := inval.Takes(i, w); takes || e != api.OK {
		t.Errorf("%v, %d", takes, e)
	}
	x, e := inval.Apply(api.TLB{Entries: []api.Entry{w, m}}, i)
	if len(x.Entries) != 1 || x.Entries[0] != w || e != api.OK {
		t.Errorf("%+v, %d", x, e)
	}
}

// P10.1: by hand, what each kind takes of entries of each kind: written out.
func TestByHand(t *testing.T) {
	l := []api.Entry{
		whole(1, 2, 0o1234, 10),                   // a
		ofAll(whole(1, 7, 0o1234, 11)),            // b
		whole(1, 3, 0o1234, 12),                   // c
		whole(2, 2, 0o1234, 13),                   // d
		middle(1, 0o1234, 14),                     // e
		middle(2, 0o1234, 15),                     // f
		table(1, 2, 0o1000, 1, 16),                // g
		table(1, 2, 0o1200, 2, 17),                // h
		ofAll(table(1, 7, 0o1230, 3, 18)),         // i
		table(1, 3, 0o1230, 3, 19),                // j
		table(2, 2, 0o1000, 1, 20),                // k
		{Kind: api.EntWhole, All: true, NG: true}, // l: all noughts else
	}
	for k, c := range []struct {
		i     api.Inval
		takes string
	}{
		{api.Inval{Kind: api.InvAll}, "abcdefghijkl"},
		{api.Inval{Kind: api.InvAll, VMID: 15, ASID: 15, Page: 4095}, "abcdefghijkl"},
		{api.Inval{Kind: api.InvVM, VMID: 1, ASID: 9, Page: 77}, "abceghij"},
		{api.Inval{Kind: api.InvVM, VMID: 2}, "dfk"},
		{api.Inval{Kind: api.InvVM}, "l"},
		{api.Inval{Kind: api.InvVM, VMID: 3}, ""},
		{api.Inval{Kind: api.InvStage, VMID: 1, ASID: 9, Page: 77}, "abcghij"},
		{api.Inval{Kind: api.InvStage, VMID: 2}, "dk"},
		{api.Inval{Kind: api.InvStage}, "l"},
		{api.Inval{Kind: api.InvASID, VMID: 1, ASID: 2, Page: 77}, "agh"},
		{api.Inval{Kind: api.InvASID, VMID: 1, ASID: 3}, "cj"},
		{api.Inval{Kind: api.InvASID, VMID: 1, ASID: 7}, ""},
		{api.Inval{Kind: api.InvASID, VMID: 1}, ""},
		{api.Inval{Kind: api.InvASID}, ""},
		{api.Inval{Kind: api.InvPage, VMID: 1, ASID: 2, Page: 0o1234}, "abghi"},
		{api.Inval{Kind: api.InvPage, VMID: 1, ASID: 3, Page: 0o1234}, "bcij"},
		{api.Inval{Kind: api.InvPage, VMID: 1, ASID: 7, Page: 0o1234}, "bi"},
		{api.Inval{Kind: api.InvPage, VMID: 1, ASID: 2, Page: 0o1235}, "ghi"},
		{api.Inval{Kind: api.InvPage, VMID: 1, ASID: 2, Page: 0o1244}, "gh"},
		{api.Inval{Kind: api.InvPage, VMID: 1, ASID: 2, Page: 0o1334}, "g"},
		{api.Inval{Kind: api.InvPage, VMID: 1, ASID: 2, Page: 0o2234}, ""},
		{api.Inval{Kind: api.InvPage, VMID: 2, ASID: 2, Page: 0o1234}, "dk"},
		{api.Inval{Kind: api.InvPage, VMID: 0, ASID: 5, Page: 0}, "l"},
		{api.Inval{Kind: api.InvPage, VMID: 0, ASID: 5, Page: 1}, ""},
		{api.Inval{Kind: api.InvMid, VMID: 1, ASID: 9, Page: 0o1234}, "e"},
		{api.Inval{Kind: api.InvMid, VMID: 2, Page: 0o1234}, "f"},
		{api.Inval{Kind: api.InvMid, VMID: 1, Page: 0o1230}, ""},
		{api.Inval{Kind: api.InvMid}, ""},
	} {
		took := ""
		for n, e := range l {
			takes, f := inval.Takes(c.i, e)
			if f != api.OK {
				t.Errorf("%d, %+v: %d", k, e, f)
			}
			if takes {
				took += string(rune('a' + n))
			}
			checkBoth(t, c.i, e)
		}
		if took != c.takes {
			t.Errorf("%d: %+v takes %q, not %q", k, c.i, took, c.takes)
		}
	}
}

// shapes are entries of each kind and level with that page, or what of it the level has.
func shapes(vmid, asid, page int) []api.Entry {
	l := []api.Entry{whole(vmid, asid, page, 3), ofAll(whole(vmid, asid, page, 3)), middle(vmid, page, 3)}
	for level := 1; level <= 3; level++ {
		e := table(vmid, asid, page-page%(1<<(3*(4-level))), level, 3)
		l = append(l, e, ofAll(e))
	}
	return l
}

// P10.1: each machine and address space against each, of each kind.
func TestEachTag(t *testing.T) {
	for tag := range 16 {
		for _, e := range slices.Concat(shapes(tag, 15-tag, 0o1234), shapes(3, tag, 0)) {
			for kind := api.InvAll; kind <= api.InvMid; kind++ {
				for vmid := range 16 {
					for asid := range 16 {
						checkTakes(t, api.Inval{Kind: kind, VMID: vmid, ASID: asid, Page: 0o1234}, e)
						checkTakes(t, api.Inval{Kind: kind, VMID: vmid, ASID: asid}, e)
					}
				}
			}
		}
	}
}

// P10.1: each page, of each kind; how many pages each shape answers to.
func TestEachPage(t *testing.T) {
	for _, page := range []int{0, 1, 0o1234, 0o7000, 0o7777} {
		for n, e := range shapes(1, 2, page) {
			count := [7]int{}
			for to := range 4096 {
				for kind := api.InvAll; kind <= api.InvMid; kind++ {
					i := api.Inval{Kind: kind, VMID: 1, ASID: 2, Page: to}
					checkTakes(t, i, e)
					if takes, _ := inval.Takes(i, e); takes {
						count[kind]++
					}
				}
			}
			ofPage := []int{1, 1, 0, 512, 512, 64, 64, 8, 8}[n]
			ofMid := []int{0, 0, 1, 0, 0, 0, 0, 0, 0}[n]
			if count[api.InvPage] != ofPage || count[api.InvMid] != ofMid {
				t.Errorf("%+v: %v", e, count)
			}
		}
	}
}

// P10.1: what may be done, and where it leads, does not count.
func TestEachAttr(t *testing.T) {
	for bits := range 32 {
		a := api.Attr{R: bits&1 > 0, W: bits&2 > 0, X: bits&4 > 0, AF: bits&8 > 0, NG: bits&16 > 0}
		for _, e := range shapes(1, 2, 0o1234) {
			if e.Kind != api.EntWalk {
				e.Attr = a
			}
			for _, frame := range []int{0, 1, 0o1234, 4095} {
				e.Frame = frame
				if e.Kind == api.EntWhole {
					e.Mid = frame
				}
				for kind := api.InvAll; kind <= api.InvMid; kind++ {
					for asid := 1; asid <= 3; asid++ {
						checkBoth(t, api.Inval{Kind: kind, VMID: 1, ASID: asid, Page: 0o1234}, e)
					}
				}
			}
		}
	}
}

// P10.1, P10.2: what takes away with wrong numbers in each field, and with right ones at the edges, in each call.
func TestWrongInval(t *testing.T) {
	full := api.TLB{Entries: shapes(1, 2, 0o1234)[:8], Due: slices.Repeat([]api.Inval{{Kind: api.InvAll}}, 8)}
	good := api.Inval{Kind: api.InvMid, VMID: 3, Page: 4}
	for field, most := range []int{6, 15, 15, 4095} {
		for _, n := range append(bad(most), 0, 1, most/2, most-1, most) {
			for kind := api.InvAll; kind <= api.InvMid; kind++ {
				x := api.Inval{Kind: kind, VMID: 1, ASID: 2, Page: 0o1234}
				*[]*int{&x.Kind, &x.VMID, &x.ASID, &x.Page}[field] = n
				for _, e := range append(shapes(1, 2, 0o1234), api.Entry{}) {
					checkTakes(t, x, e)
				}
				for _, y := range []api.TLB{{}, full, {Entries: []api.Entry{{}}}} {
					checkApply(t, y, x)
					checkApply(t, y, x, good)
					checkApply(t, y, good, x)
					checkApply(t, y, good, x, good)
					checkLater(t, y, x)
				}
				checkWait(t, []api.TLB{{}, {Due: []api.Inval{good, x}}}, 0)
				checkWait(t, []api.TLB{{}, {Due: []api.Inval{good, x}}}, 1)
			}
		}
	}
}

// wrongNumbers are an entry with wrong numbers, one at a time.
func wrongNumbers(e api.Entry) (l []api.Entry) {
	for field, most := range []int{15, 15, 4095, 4095, 4095, 0, 3, 3} {
		for _, n := range bad(most) {
			x := e
			*[]*int{&x.VMID, &x.ASID, &x.Page, &x.Frame, &x.Mid, &x.Soft, &x.Level, &x.Kind}[field] = n
			if !isIn(n, most) {
				l = append(l, x)
			}
		}
	}
	return l
}

// wrongEntries have wrong numbers, or what their kind does not have.
func wrongEntries() []api.Entry {
	l := []api.Entry{{}, {Kind: -1}, {Kind: 4}, {Kind: math.MaxInt}}
	for _, e := range shapes(1, 2, 0o1234) {
		l = append(l, wrongNumbers(e)...)
	}
	w := slices.Repeat([]api.Entry{whole(1, 2, 3, 4)}, 2)
	w[0].Level, w[1].Level = 1, 3
	m := slices.Repeat([]api.Entry{middle(1, 5, 6)}, 5)
	m[0].ASID, m[1].All, m[2].Level, m[3].Mid, m[4].NG = 1, false, 1, 1, true
	b := slices.Repeat([]api.Entry{table(1, 2, 0o1200, 2, 3)}, 10)
	b[0].Level, b[1].Level, b[2].Page, b[3].Page, b[4].Mid = 0, 1, 0o1201, 0o1210, 1
	b[5].R, b[6].W, b[7].X, b[8].AF, b[9].NG = true, true, true, true, true
	return slices.Concat(l, w, m, b)
}

// P10.1, P10.2: entries that may not be, in each call, whatever is asked.
func TestWrongEntry(t *testing.T) {
	for _, e := range wrongEntries() {
		if slowEntry(e) {
			t.Fatalf("%+v may be", e)
		}
		for kind := 0; kind <= 7; kind++ {
			i := api.Inval{Kind: kind, VMID: 1, ASID: 2, Page: 0o1234}
			checkTakes(t, i, e)
			for _, x := range []api.TLB{{Entries: []api.Entry{e}}, {Entries: []api.Entry{whole(1, 2, 0o1234, 4), e}}} {
				checkApply(t, x, i)
				checkApply(t, x)
				checkLater(t, x, i)
				x.Due = slices.Repeat([]api.Inval{i}, 8)
				checkLater(t, x, i)
				checkWait(t, []api.TLB{x, {}}, 0)
				checkWait(t, []api.TLB{x, {}}, 1)
				checkWait(t, []api.TLB{{}, {}, x}, 1)
			}
		}
	}
}

// P10.1, P10.2: TLBs that are too long, or have two entries that are alike.
func TestWrongTLB(t *testing.T) {
	var many []api.Entry
	for k := range 9 {
		many = append(many, whole(1, 2, k, k))
	}
	dues := slices.Repeat([]api.Inval{{Kind: api.InvMid}}, 9)
	for _, x := range []api.TLB{{Entries: many}, {Due: dues}, {Entries: many[:8], Due: dues}, {Entries: many, Due: dues[:8]}, {Entries: []api.Entry{many[0], many[1], many[0]}}} {
		for _, i := range []api.Inval{{Kind: api.InvAll}, {Kind: api.InvMid, VMID: 1}, {}} {
			checkApply(t, x, i)
			checkApply(t, x)
			checkLater(t, x, i)
		}
		for cpu := -1; cpu <= 3; cpu++ {
			checkWait(t, []api.TLB{x, {}, {}}, cpu)
			checkWait(t, []api.TLB{{}, {}, x}, cpu)
		}
		if y, e := inval.Apply(x, api.Inval{Kind: api.InvAll}); !same(y, api.TLB{}) || e != api.ErrForm {
			t.Errorf("%+v, %d", y, e)
		}
	}
}

// P10.1: by none, by values, and by a row of them; in each order of these; entries stay in order, and Due as it is.
func TestApplyRow(t *testing.T) {
	x := api.TLB{
		Entries: []api.Entry{middle(1, 5, 10), whole(1, 2, 5, 11), whole(2, 2, 5, 12), table(1, 3, 0, 3, 13), middle(2, 5, 14), whole(1, 3, 6, 15)},
		Due:     []api.Inval{{Kind: api.InvAll}, {Kind: api.InvMid, VMID: 1, Page: 5}, {Kind: api.InvAll}},
	}
	frames := func(y api.TLB, e api.Errno) (l []int) {
		if e != api.OK || !slices.Equal(y.Due, x.Due) {
			t.Errorf("%+v, %d", y, e)
		}
		for _, e := range y.Entries {
			l = append(l, e.Frame)
		}
		return l
	}
	mid, stage, asid := api.Inval{Kind: api.InvMid, VMID: 1, Page: 5}, api.Inval{Kind: api.InvStage, VMID: 2}, api.Inval{Kind: api.InvASID, VMID: 1, ASID: 3}
	for _, c := range []struct{ got, want []int }{
		{frames(inval.Apply(x)), []int{10, 11, 12, 13, 14, 15}},
		{frames(inval.Apply(x, []api.Inval(nil)...)), []int{10, 11, 12, 13, 14, 15}},
		{frames(inval.Apply(x, []api.Inval{}...)), []int{10, 11, 12, 13, 14, 15}},
		{frames(inval.Apply(x, mid)), []int{11, 12, 13, 14, 15}},
		{frames(inval.Apply(x, mid, stage)), []int{11, 13, 14, 15}},
		{frames(inval.Apply(x, stage, mid)), []int{11, 13, 14, 15}},
		{frames(inval.Apply(x, asid, stage, mid, asid)), []int{11, 14}},
		{frames(inval.Apply(x, []api.Inval{mid, asid, stage}...)), []int{11, 14}},
		{frames(inval.Apply(x, mid, api.Inval{Kind: api.InvAll})), nil},
	} {
		if !slices.Equal(c.got, c.want) {
			t.Errorf("%v, not %v", c.got, c.want)
		}
	}
}

// P10.1: a row of any length; the last one counts, and one that may not be is found wherever it stands.
func TestApplyLong(t *testing.T) {
	x := api.TLB{Entries: []api.Entry{whole(1, 2, 5, 11), whole(2, 2, 5, 12)}}
	for _, n := range []int{8, 9, 16, 17, 1 << 16} {
		l := slices.Repeat([]api.Inval{{Kind: api.InvMid, VMID: 1, Page: 5}}, n)
		checkApply(t, x, l...)
		for _, at := range []int{0, 7, 8 % n, n / 2, n - 1} {
			for _, i := range []api.Inval{{Kind: api.InvVM, VMID: 1}, {Kind: api.InvAll}, {}, {Kind: api.InvAll, Page: 4096}} {
				old := l[at]
				l[at] = i
				checkApply(t, x, l...)
				l[at] = old
			}
		}
	}
}

// P10.2: as many as there is room for, alike or not, in order; then ErrFull, with nothing beside it.
func TestLater(t *testing.T) {
	for _, step := range []int{0, 1} {
		x := api.TLB{Entries: []api.Entry{whole(1, 2, 5, 11), middle(1, 5, 12)}}
		for n := range api.MaxDue {
			i := api.Inval{Kind: api.InvMid, VMID: 1, Page: 5 + n*step}
			y, e := inval.Later(x, i)
			if e != api.OK || len(y.Due) != n+1 || y.Due[n] != i || !slices.Equal(y.Due[:n], x.Due) || !slices.Equal(y.Entries, x.Entries) {
				t.Fatalf("%d: %+v, %d", n, y, e)
			}
			checkLater(t, x, i)
			x = y
		}
		for _, i := range []api.Inval{{Kind: api.InvAll}, x.Due[0], x.Due[7]} {
			if y, e := inval.Later(x, i); e != api.ErrFull || !same(y, api.TLB{}) {
				t.Errorf("%+v, %d", y, e)
			}
		}
		if y, e := inval.Later(x, api.Inval{}); e != api.ErrForm || !same(y, api.TLB{}) {
			t.Errorf("%+v, %d", y, e)
		}
		// There is room again once it was waited.
		l, e := inval.Wait([]api.TLB{x}, 0)
		if e != api.OK || len(l) != 1 || len(l[0].Due) != 0 || !slices.Equal(l[0].Entries, x.Entries[:1]) {
			t.Fatalf("%+v, %d", l, e)
		}
		checkLater(t, l[0], api.Inval{Kind: api.InvAll})
	}
}

// P10.2: what the one who waits has due goes from all, what others have due goes from none.
func TestWait(t *testing.T) {
	a, b, c, d := whole(1, 2, 5, 11), middle(1, 5, 12), table(2, 2, 0, 1, 13), whole(2, 2, 5, 14)
	l := []api.TLB{
		{Entries: []api.Entry{a, b, c, d}, Due: []api.Inval{{Kind: api.InvMid, VMID: 1, Page: 5}}},
		{Entries: []api.Entry{d, c, b, a}, Due: []api.Inval{{Kind: api.InvStage, VMID: 2}, {Kind: api.InvPage, VMID: 1, ASID: 2, Page: 5}}},
		{Entries: []api.Entry{b, d}},
	}
	for cpu, want := range [][]api.TLB{
		{{Entries: []api.Entry{a, c, d}}, {Entries: []api.Entry{d, c, a}, Due: l[1].Due}, {Entries: []api.Entry{d}}},
		{{Entries: []api.Entry{b}, Due: l[0].Due}, {Entries: []api.Entry{b}}, {Entries: []api.Entry{b}}},
		l,
	} {
		if m, e := inval.Wait(l, cpu); !sameAll(m, want) || e != api.OK {
			t.Errorf("%d: %+v, %d", cpu, m, e)
		}
		checkWait(t, l, cpu)
	}
}

// P10.2: a processor that is none, of any number of them; a TLB that may not be, in each place.
func TestWaitWrong(t *testing.T) {
	for _, n := range []int{0, 1, 2, 3, 4, 100} {
		l := make([]api.TLB, n)
		for k := range l {
			l[k] = api.TLB{Entries: []api.Entry{middle(k%16, k, k)}, Due: []api.Inval{{Kind: api.InvVM, VMID: k % 16}}}
		}
		for _, cpu := range append(bad(n), 0, 1, n/2, n-1, n) {
			checkWait(t, l, cpu)
			if m, e := inval.Wait(l, cpu); (e != api.OK) != !(0 <= cpu && cpu < n) || e != api.OK && (len(m) > 0 || e != api.ErrForm) {
				t.Errorf("%d of %d: %+v, %d", cpu, n, m, e)
			}
		}
		for k := range l {
			old := l[k]
			for _, x := range []api.TLB{{Entries: []api.Entry{{}}}, {Due: []api.Inval{{}}}, {Entries: make([]api.Entry, 9)}, {Due: make([]api.Inval, 9)}} {
				l[k] = x
				checkWait(t, l, 0)
				checkWait(t, l, k)
				checkWait(t, l, n-1)
			}
			l[k] = old
		}
	}
	for _, l := range [][]api.TLB{nil, {}} {
		checkWait(t, l, 0)
		checkWait(t, l, -1)
	}
}

// dice are numbers with nothing regular in them, the same ones in each run.
type dice uint64

func (d *dice) upTo(n int) int {
	*d = *d*6364136223846793005 + 1442695040888963407
	return int(uint64(*d>>33) % uint64(n))
}

func (d *dice) pick(l ...int) int {
	return l[d.upTo(len(l))]
}

// page is one of few, so that many are met again.
func (d *dice) page() int {
	return 512*d.pick(0, 0, 5) + 64*d.pick(0, 0, 5) + 8*d.pick(0, 0, 5) + d.pick(0, 0, 5)
}

func (d *dice) inval() api.Inval {
	i := api.Inval{Kind: d.pick(2, 3, 4, 4, 5, 5, 5, 6, 6), VMID: d.upTo(2), ASID: d.upTo(2), Page: d.page()}
	switch d.upTo(100) {
	case 0:
		i.Kind = d.pick(0, 7)
	case 1:
		i.Kind = api.InvAll
	}
	return i
}

func (d *dice) entry() api.Entry {
	e := d.pickEntry(shapes(d.upTo(2), d.upTo(2), d.page()))
	e.Frame = d.upTo(4)
	return e
}

func (d *dice) pickEntry(l []api.Entry) api.Entry {
	return l[d.upTo(len(l))]
}

// tlb is one that may be, mostly.
func (d *dice) tlb() (x api.TLB) {
	for range d.pick(0, 3, 6, 8, 8, 8) {
		if e := d.entry(); !slices.Contains(x.Entries, e) || d.upTo(40) == 0 {
			x.Entries = append(x.Entries, e)
		}
	}
	for range d.pick(0, 0, 1, 2, 7, 8) {
		x.Due = append(x.Due, d.inval())
	}
	return x
}

// P10.1, P10.2: TLBs of all kinds, as the document's words say them once more.
func TestMany(t *testing.T) {
	d := dice(10)
	left := map[int]int{}
	for range 20000 {
		l := []api.TLB{d.tlb(), d.tlb(), d.tlb()}[:1+d.upTo(3)]
		x := l[0]
		for _, e := range x.Entries {
			checkTakes(t, d.inval(), e)
		}
		var row []api.Inval
		for range d.pick(0, 1, 1, 2, 3, 12) {
			row = append(row, d.inval())
		}
		checkApply(t, x, row...)
		checkLater(t, x, d.inval())
		for cpu := -1; cpu <= len(l); cpu++ {
			checkWait(t, l, cpu)
		}
		if y, e := inval.Apply(x, row...); e == api.OK && len(x.Entries) == 8 {
			left[len(y.Entries)]++
		}
	}
	if len(left) != 9 {
		t.Errorf("%v", left)
	}
}

// P10.3: behind Wait nothing is left that was due, nothing else is gone, and to wait again changes nothing.
func TestNothingIsLeft(t *testing.T) {
	d := dice(3)
	for range 5000 {
		l := []api.TLB{d.tlb(), d.tlb(), d.tlb()}
		cpu := d.upTo(3)
		m, e := inval.Wait(l, cpu)
		if e != api.OK {
			continue
		}
		for k, x := range m {
			gone := slices.Clone(l[k].Entries)
			for _, e := range x.Entries {
				for _, i := range l[cpu].Due {
					if takes, f := inval.Takes(i, e); takes || f != api.OK {
						t.Fatalf("%+v is left, though %+v was due", e, i)
					}
				}
				gone = slices.DeleteFunc(gone, func(g api.Entry) bool { return g == e })
			}
			for _, e := range gone {
				if !slices.ContainsFunc(l[cpu].Due, func(i api.Inval) bool { return slowTakes(i, e) }) {
					t.Fatalf("%+v is gone, by nothing of %+v", e, l[cpu].Due)
				}
			}
			if tlb.Check(x) != api.OK || len(m[cpu].Due) > 0 || k != cpu && !slices.Equal(x.Due, l[k].Due) {
				t.Fatalf("%+v, behind %+v", x, l[k])
			}
		}
		if again, e := inval.Wait(m, cpu); !sameAll(again, m) || e != api.OK {
			t.Fatalf("%+v, %d, behind %+v", again, e, m)
		}
	}
}

// P10.3: a course of Later, then Wait: as Apply of all of it, on each processor.
func TestLaterIsApply(t *testing.T) {
	d := dice(8)
	for range 3000 {
		l := []api.TLB{d.tlb(), d.tlb()}
		l[0].Due = nil
		var row []api.Inval
		want := make([]api.TLB, 2)
		for range d.upTo(9) {
			if i := d.inval(); slowInval(i) {
				row = append(row, i)
				l[0], _ = inval.Later(l[0], i)
			}
		}
		var e, f api.Errno
		want[0], e = inval.Apply(l[0], row...)
		want[1], f = inval.Apply(l[1], row...)
		want[0].Due = nil
		m, g := inval.Wait(l, 0)
		if e == api.OK && f == api.OK && (!sameAll(m, want) || g != api.OK) {
			t.Fatalf("%+v, %d, not %+v", m, g, want)
		}
	}
}

// roomy is a TLB with spare room behind both lists, and all of that room.
func roomy(entries, dues int) (x api.TLB, room api.TLB) {
	for k := range 12 {
		room.Entries = append(room.Entries, whole(1, 1, k, k))
		room.Due = append(room.Due, api.Inval{Kind: api.InvPage, VMID: 1, ASID: 1, Page: 2 * k})
	}
	return api.TLB{Entries: room.Entries[:entries], Due: room.Due[:dues]}, room
}

// spoil writes into all of a TLB's room, and behind it.
func spoil(x api.TLB) {
	for _, l := range [][]api.Entry{x.Entries, x.Entries[:cap(x.Entries)], append(x.Entries, api.Entry{Kind: 99})} {
		for k := range l {
			l[k] = api.Entry{Kind: 98}
		}
	}
	for _, l := range [][]api.Inval{x.Due, x.Due[:cap(x.Due)], append(x.Due, api.Inval{Kind: 99})} {
		for k := range l {
			l[k] = api.Inval{Kind: 98}
		}
	}
}

func copied(x api.TLB) api.TLB {
	return api.TLB{Entries: slices.Clone(x.Entries), Due: slices.Clone(x.Due)}
}

// R1, R2: what is handed in stays, its spare room too; what is told is new, and the same call tells the same.
func TestLeavesAll(t *testing.T) {
	for entries := range 9 {
		for dues := range 9 {
			x, room := roomy(entries, dues)
			_, old := roomy(entries, dues)
			// A row with spare room, and one that is the TLB's own.
			row := room.Due[:3]
			calls := []func() (api.TLB, api.Errno){
				func() (api.TLB, api.Errno) { return inval.Apply(x) },
				func() (api.TLB, api.Errno) { return inval.Apply(x, row...) },
				func() (api.TLB, api.Errno) { return inval.Apply(x, x.Due...) },
				func() (api.TLB, api.Errno) { return inval.Apply(x, api.Inval{Kind: api.InvAll}) },
				func() (api.TLB, api.Errno) { return inval.Later(x, api.Inval{Kind: api.InvMid, VMID: 2}) },
			}
			for k, call := range calls {
				one, e := call()
				two, f := call()
				kept := copied(two)
				if !same(one, two) || e != f {
					t.Fatalf("%d, %d, call %d: %+v, then %+v", entries, dues, k, one, two)
				}
				spoil(one)
				if !same(room, old) || !same(two, kept) {
					t.Fatalf("%d, %d, call %d: what was told is shared", entries, dues, k)
				}
			}
		}
	}
}

// R1, R2: Wait likewise: of all TLBs that it tells, none has anything in common with another, nor with one that was handed in.
func TestWaitLeavesAll(t *testing.T) {
	for entries := range 9 {
		for dues := range 9 {
			x, room := roomy(entries, dues)
			_, old := roomy(entries, dues)
			// All processors have one TLB's lists, and there is one behind the row.
			row := []api.TLB{x, x, x, {Due: x.Due}}
			m, e := inval.Wait(row[:3], 1)
			n, f := inval.Wait(row[:3], 1)
			if !sameAll(m, n) || len(m) != 3 || e != api.OK || f != api.OK {
				t.Fatalf("%+v, %d, then %+v, %d", m, e, n, f)
			}
			kept := []api.TLB{copied(n[0]), copied(n[1]), copied(n[2])}
			for k := range m {
				spoil(m[k])
				if !same(room, old) || !sameAll(n, kept) || !sameAll(m[k+1:], kept[k+1:]) {
					t.Fatalf("%d, %d: what was told of processor %d is shared", entries, dues, k)
				}
			}
			for k, y := range append(m, api.TLB{})[:cap(m)] {
				m[:cap(m)][k] = api.TLB{Due: y.Due}
			}
			if !sameAll(n, kept) || !sameAll(row, []api.TLB{x, x, x, {Due: x.Due}}) {
				t.Fatalf("%d, %d: the row itself is shared", entries, dues)
			}
		}
	}
}

// R2: a nil list and an empty one are one.
func TestNothing(t *testing.T) {
	for _, x := range []api.TLB{{}, {Entries: []api.Entry{}}, {Due: []api.Inval{}}, {Entries: []api.Entry{}, Due: []api.Inval{}}} {
		checkApply(t, x)
		checkApply(t, x, api.Inval{Kind: api.InvAll})
		checkApply(t, x, api.Inval{})
		checkLater(t, x, api.Inval{Kind: api.InvAll})
		checkWait(t, []api.TLB{x}, 0)
		checkWait(t, []api.TLB{{Due: []api.Inval{{Kind: api.InvAll}}}, x}, 0)
	}
}

// R1: lists that are far too long are refused, and processors without number are served.
func TestLong(t *testing.T) {
	x := api.TLB{Entries: make([]api.Entry, 1<<18), Due: make([]api.Inval, 1<<18)}
	for k := range x.Entries {
		x.Entries[k] = whole(1, k%16, k/16%4096, k>>16)
		x.Due[k] = api.Inval{Kind: api.InvAll}
	}
	for _, y := range []api.TLB{x, {Entries: x.Entries}, {Due: x.Due}} {
		checkApply(t, y, api.Inval{Kind: api.InvAll})
		checkLater(t, y, api.Inval{Kind: api.InvAll})
		checkWait(t, []api.TLB{y}, 0)
	}
	l := make([]api.TLB, 1<<16)
	l[1<<16-1] = api.TLB{Entries: x.Entries[:8], Due: x.Due[:8]}
	l[0] = api.TLB{Entries: x.Entries[8:16], Due: x.Due[:1]}
	for _, cpu := range []int{0, 1, 1<<16 - 1, 1 << 16} {
		checkWait(t, l, cpu)
	}
}

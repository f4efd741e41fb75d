package tlb_test

import (
	"math"
	"slices"
	"testing"

	"bulwark/api"
	"bulwark/tlb"
)

var all = api.Attr{R: true, W: true, X: true, AF: true}

func whole(vmid, asid, page, frame int) api.Entry {
	return api.Entry{Kind: api.EntWhole, VMID: vmid, ASID: asid, Page: page, Frame: frame, Mid: 9, Attr: all}
}

func middle(vmid, page, frame int) api.Entry {
	return api.Entry{Kind: api.EntMid, VMID: vmid, All: true, Page: page, Frame: frame, Attr: all}
}

func table(vmid, asid, page, level, frame int) api.Entry {
	return api.Entry{Kind: api.EntWalk, VMID: vmid, ASID: asid, Page: page, Level: level, Frame: frame}
}

// bad has numbers that are none, whether of 15 or of 4095; some come back among those that are where bits are lost.
func bad(most int) []int {
	return []int{math.MinInt, math.MinInt + 1, -1 << 32, -most - 1, -most, -2, -1, most + 1, most + 2, 2*most + 2, 1 << 16, 1 << 32, 1<<32 + 1, 1 << 52, 1 << 62, math.MaxInt - most, math.MaxInt}
}

func isIn(n, most int) bool {
	return 0 <= n && n <= most
}

// digits are a page's places in the tables of levels 0 to 3.
func digits(page int) [4]int {
	return [4]int{page / 512, page / 64 % 8, page / 8 % 8, page % 8}
}

// slowEntry says whether an entry may be, in the document's words.
func slowEntry(e api.Entry) bool {
	if !isIn(e.VMID, 15) || !isIn(e.ASID, 15) || !isIn(e.Page, 4095) || !isIn(e.Frame, 4095) || !isIn(e.Mid, 4095) || e.Soft != 0 {
		return false
	}
	if e.Kind == api.EntWhole {
		return e.Level == 0
	}
	if e.Kind == api.EntMid {
		return e.ASID == 0 && e.All && e.Level == 0 && e.Mid == 0 && !e.NG
	}
	if e.Kind != api.EntWalk || !isIn(e.Level-1, 2) || e.Mid != 0 || e.R || e.W || e.X || e.AF || e.NG {
		return false
	}
	for level, i := range digits(e.Page) {
		if level >= e.Level && i != 0 {
			return false
		}
	}
	return true
}

func slowInval(x api.Inval) bool {
	return isIn(x.Kind-1, 5) && isIn(x.VMID, 15) && isIn(x.ASID, 15) && isIn(x.Page, 4095)
}

func slowTLB(t api.TLB) bool {
	if len(t.Entries) > 8 || len(t.Due) > 8 {
		return false
	}
	for i, e := range t.Entries {
		for k, f := range t.Entries {
			if i != k && e == f {
				return false
			}
		}
		if !slowEntry(e) {
			return false
		}
	}
	return !slices.ContainsFunc(t.Due, func(x api.Inval) bool { return !slowInval(x) })
}

// slowOf says whether an entry is of a machine, an address space and a page.
func slowOf(e api.Entry, vmid, asid, page int) bool {
	if e.VMID != vmid || e.ASID != asid && !e.All {
		return false
	}
	d := digits(page)
	for level := range d {
		if e.Kind == api.EntWalk && level >= e.Level {
			d[level] = 0
		}
	}
	return digits(e.Page) == d
}

func slowMay(a api.Attr, acc int) bool {
	return acc == api.AccRead && a.R || acc == api.AccWrite && a.W || acc == api.AccExec && a.X
}

func slowAsk(t api.TLB, kind, vmid, asid, page, acc int) (api.Entry, api.Errno) {
	if !slowTLB(t) || !isIn(vmid, 15) || !isIn(asid, 15) || !isIn(page, 4095) || !isIn(acc, 2) {
		return api.Entry{}, api.ErrForm
	}
	for _, e := range t.Entries {
		if e.Kind == kind && slowOf(e, vmid, asid, page) && slowMay(e.Attr, acc) {
			return e, api.OK
		}
	}
	return api.Entry{}, api.ErrNone
}

func slowWalk(t api.TLB, vmid, asid, page int) (api.Entry, api.Errno) {
	if !slowTLB(t) || !isIn(vmid, 15) || !isIn(asid, 15) || !isIn(page, 4095) {
		return api.Entry{}, api.ErrForm
	}
	for level := 3; level > 0; level-- {
		for _, e := range t.Entries {
			if e.Kind == api.EntWalk && e.Level == level && slowOf(e, vmid, asid, page) {
				return e, api.OK
			}
		}
	}
	return api.Entry{}, api.ErrNone
}

func slowFill(t api.TLB, e api.Entry) (api.TLB, api.Errno) {
	if !slowTLB(t) || !slowEntry(e) {
		return api.TLB{}, api.ErrForm
	}
	if len(t.Entries) == 8 || slices.Contains(t.Entries, e) {
		return t, api.OK
	}
	return api.TLB{Entries: slices.Concat(t.Entries, []api.Entry{e}), Due: t.Due}, api.OK
}

func slowDrop(t api.TLB, i int) (api.TLB, api.Errno) {
	if !slowTLB(t) {
		return api.TLB{}, api.ErrForm
	}
	if i < 0 || i >= len(t.Entries) {
		return api.TLB{}, api.ErrNone
	}
	return api.TLB{Entries: slices.Concat(t.Entries[:i], t.Entries[i+1:]), Due: t.Due}, api.OK
}

func same(a, b api.TLB) bool {
	return slices.Equal(a.Entries, b.Entries) && slices.Equal(a.Due, b.Due)
}

// answer is what a call tells beside an error: an entry, or a TLB.
type answer struct {
	entry api.Entry
	api.TLB
	e api.Errno
}

func (a answer) same(b answer) bool {
	return a.entry == b.entry && same(a.TLB, b.TLB) && a.e == b.e
}

func entryAnswer(x api.Entry, e api.Errno) answer { return answer{entry: x, e: e} }
func tlbAnswer(x api.TLB, e api.Errno) answer     { return answer{TLB: x, e: e} }

// hold holds a call's answer against what the document says.
func hold(t *testing.T, call string, x api.TLB, args any, got, want answer) {
	t.Helper()
	if !got.same(want) {
		t.Fatalf("%s(%+v, %+v): %+v, not %+v", call, x, args, got, want)
	}
}

func checkWhole(t *testing.T, x api.TLB, vmid, asid, page, acc int) {
	t.Helper()
	got := entryAnswer(tlb.Whole(x, vmid, asid, page, acc))
	want := entryAnswer(slowAsk(x, api.EntWhole, vmid, asid, page, acc))
	hold(t, "Whole", x, [4]int{vmid, asid, page, acc}, got, want)
}

func checkMid(t *testing.T, x api.TLB, vmid, mid, acc int) {
	t.Helper()
	got := entryAnswer(tlb.Mid(x, vmid, mid, acc))
	want := entryAnswer(slowAsk(x, api.EntMid, vmid, 0, mid, acc))
	hold(t, "Mid", x, [3]int{vmid, mid, acc}, got, want)
}

func checkWalk(t *testing.T, x api.TLB, vmid, asid, page int) {
	t.Helper()
	got := entryAnswer(tlb.Walk(x, vmid, asid, page))
	want := entryAnswer(slowWalk(x, vmid, asid, page))
	hold(t, "Walk", x, [3]int{vmid, asid, page}, got, want)
}

func checkFill(t *testing.T, x api.TLB, e api.Entry) {
	t.Helper()
	hold(t, "Fill", x, e, tlbAnswer(tlb.Fill(x, e)), tlbAnswer(slowFill(x, e)))
}

func checkDrop(t *testing.T, x api.TLB, i int) {
	t.Helper()
	hold(t, "Drop", x, i, tlbAnswer(tlb.Drop(x, i)), tlbAnswer(slowDrop(x, i)))
}

func checkCheck(t *testing.T, x api.TLB) {
	t.Helper()
	want := api.OK
	if !slowTLB(x) {
		want = api.ErrForm
	}
	if e := tlb.Check(x); e != want {
		t.Fatalf("Check(%+v): %d, not %d", x, e, want)
	}
}

// one is a TLB of one entry.
func one(e api.Entry) api.TLB {
	return api.TLB{Entries: []api.Entry{e}}
}

// checkEntry asks whether an entry may be in each way that it comes in.
func checkEntry(t *testing.T, e api.Entry) {
	t.Helper()
	checkCheck(t, one(e))
	checkFill(t, api.TLB{}, e)
	checkFill(t, one(middle(15, 15, 15)), e)
}

// example 1; P9.1, P9.2: by hand, with numbers written out.
func TestByHand(t *testing.T) {
	e := whole(1, 2, 5, 30)
	x, bad := tlb.Fill(api.TLB{}, e)
	if len(x.Entries) != 1 || x.Entries[0] != e || len(x.Due) != 0 || bad != api.OK {
		t.Fatalf("%+v, %d", x, bad)
	}
	if y, bad := tlb.Whole(x, 1, 2, 5, api.AccWrite); y != e || bad != api.OK {
		t.Errorf("%+v, %d", y, bad)
	}
	if y, bad := tlb.Mid(x, 1, 5, api.AccRead); y != (api.Entry{}) || bad != api.ErrNone {
		t.Errorf("%+v, %d", y, bad)
	}
	for i, e := range []api.Entry{middle(1, 5, 31), table(1, 2, 0o1000, 1, 32), table(1, 2, 0o1200, 2, 33), table(1, 2, 0o1230, 3, 34)} {
		if x, bad = tlb.Fill(x, e); len(x.Entries) != i+2 || x.Entries[i+1] != e || bad != api.OK {
			t.Fatalf("%+v, %d", x, bad)
		}
	}
	if y, bad := tlb.Mid(x, 1, 5, api.AccExec); y.Frame != 31 || bad != api.OK {
		t.Errorf("%+v, %d", y, bad)
	}
	for _, c := range []struct{ page, frame int }{{0o1234, 34}, {0o1237, 34}, {0o1244, 33}, {0o1277, 33}, {0o1300, 32}, {0o1777, 32}} {
		if y, bad := tlb.Walk(x, 1, 2, c.page); y.Frame != c.frame || bad != api.OK {
			t.Errorf("%#o: %+v, %d", c.page, y, bad)
		}
	}
	if y, bad := tlb.Walk(x, 1, 2, 0o2234); y != (api.Entry{}) || bad != api.ErrNone {
		t.Errorf("%+v, %d", y, bad)
	}
	y, bad := tlb.Drop(x, 1)
	if len(y.Entries) != 4 || y.Entries[0] != e || y.Entries[1] != x.Entries[2] || bad != api.OK {
		t.Errorf("%+v, %d", y, bad)
	}
}

// P9.1, P9.2: each way in which kinds, levels, attributes and the rest stand together.
func TestEachShape(t *testing.T) {
	type shape struct {
		kind, level int
		may         bool
	}
	seen := map[shape]int{}
	for kind := -1; kind <= 5; kind++ {
		for level := -1; level <= 5; level++ {
			for _, page := range []int{0, 1, 7, 8, 0o70, 0o77, 0o100, 0o120, 0o700, 0o1000, 0o1234, 0o7000, 0o7700, 0o7770, 0o7777} {
				for bits := range 256 {
					a := api.Attr{R: bits&1 > 0, W: bits&2 > 0, X: bits&4 > 0, AF: bits&8 > 0, NG: bits&16 > 0}
					e := api.Entry{Kind: kind, Page: page, Level: level, Attr: a, All: bits&32 > 0, Mid: bits >> 6 % 2, ASID: bits >> 7}
					checkEntry(t, e)
					seen[shape{kind, level, slowEntry(e)}]++
				}
			}
		}
	}
	// Of 49 kinds with levels 5 have some that may be: whole ones, all of them; intermediate ones, and tables of three levels, some.
	n := 0
	for k := range seen {
		if k.may {
			n++
		}
	}
	if n != 5 || len(seen) != 49+4 {
		t.Errorf("%d of %d: %v", n, len(seen), seen)
	}
}

// P9.1: of a table's pages just those may be that are 0 from its level's index on.
func TestTablesPages(t *testing.T) {
	count := [4]int{}
	for level := 1; level <= 3; level++ {
		for page := range 4096 {
			e := table(1, 2, page, level, 3)
			checkEntry(t, e)
			if slowEntry(e) {
				count[level]++
			}
		}
	}
	if count != [4]int{0, 8, 64, 512} {
		t.Errorf("%v", count)
	}
}

// numbers are a way to each number of an entry, and the greatest one that it may have.
func numbers(e *api.Entry) (l []*int, most []int) {
	return []*int{&e.VMID, &e.ASID, &e.Page, &e.Frame, &e.Mid, &e.Soft, &e.Level, &e.Kind}, []int{15, 15, 4095, 4095, 4095, 0, 3, 3}
}

// P9.1, P9.2: wrong numbers of each field, and right ones at the edges.
func TestNumbers(t *testing.T) {
	for _, e := range []api.Entry{whole(3, 4, 5, 6), middle(3, 5, 6), table(3, 4, 0o1000, 1, 6), table(3, 4, 0, 3, 6)} {
		_, mosts := numbers(&e)
		for i, most := range mosts {
			for _, n := range append(bad(most), 0, 1, most/2, most-1, most) {
				x := e
				l, _ := numbers(&x)
				*l[i] = n
				if !isIn(n, most) && slowEntry(x) {
					t.Fatalf("%+v", x)
				}
				checkEntry(t, x)
				for kind := range 7 {
					y := one(x)
					y.Due = []api.Inval{{Kind: kind}}
					checkCheck(t, y)
				}
			}
		}
	}
}

// P9.1: what takes away, with right numbers and wrong ones, in each place of Due.
func TestDue(t *testing.T) {
	for i, most := range []int{6, 15, 15, 4095} {
		for _, n := range append(bad(most), 0, 1, most/2, most-1, most) {
			x := api.Inval{Kind: api.InvPage, VMID: 3, ASID: 4, Page: 5}
			*[]*int{&x.Kind, &x.VMID, &x.ASID, &x.Page}[i] = n
			for at := range 8 {
				l := slices.Repeat([]api.Inval{{Kind: api.InvAll}}, 8)
				l[at] = x
				checkCheck(t, api.TLB{Due: l})
				checkCheck(t, api.TLB{Due: l[:at+1], Entries: []api.Entry{whole(1, 1, 1, 1)}})
			}
		}
	}
	for kind := 1; kind <= 6; kind++ {
		for n := range 12 {
			// Of Due some may be alike: all of these are.
			checkCheck(t, api.TLB{Due: slices.Repeat([]api.Inval{{Kind: kind, VMID: 15, ASID: 15, Page: 4095}}, n)})
		}
	}
}

// P9.1: no more than eight entries; two that are alike in no place.
func TestEntries(t *testing.T) {
	var l []api.Entry
	for i := range 12 {
		checkCheck(t, api.TLB{Entries: l})
		for k := range l {
			checkCheck(t, api.TLB{Entries: append(slices.Clone(l), l[k])})
			x := slices.Clone(l)
			x[k].Soft = 1
			checkCheck(t, api.TLB{Entries: x})
		}
		l = append(l, []api.Entry{whole(1, 2, i, 3), middle(1, i, 3), table(1, 2, 512*(i/4), 1+i%4/2, i)}[i%3])
	}
}

// variants differ from an entry in one field each, and all of them may be if it is a whole one.
func variants(e api.Entry) []api.Entry {
	l := slices.Repeat([]api.Entry{e}, 11)
	l[0].VMID++
	l[1].ASID++
	l[2].All = !e.All
	l[3].Page++
	l[4].Frame++
	l[5].Mid++
	l[6].R = !e.R
	l[7].W = !e.W
	l[8].X = !e.X
	l[9].AF = !e.AF
	l[10].NG = !e.NG
	return l
}

// P9.1, P9.2: alike are entries whose fields are all so.
func TestAlike(t *testing.T) {
	e := whole(1, 2, 3, 4)
	for i, x := range variants(e) {
		y, bad := tlb.Fill(one(e), x)
		if len(y.Entries) != 2 || bad != api.OK || tlb.Check(y) != api.OK {
			t.Errorf("%d: %+v, %d", i, y, bad)
		}
		for _, again := range []api.Entry{e, x} {
			checkFill(t, y, again)
			checkCheck(t, api.TLB{Entries: append(slices.Clone(y.Entries), again)})
		}
	}
	for _, e := range []api.Entry{e, middle(1, 3, 4), table(1, 2, 512, 2, 4)} {
		if y, bad := tlb.Fill(one(e), e); !same(y, one(e)) || bad != api.OK {
			t.Errorf("%+v, %d", y, bad)
		}
		if bad := tlb.Check(api.TLB{Entries: []api.Entry{e, e}}); bad != api.ErrForm {
			t.Errorf("%+v: %d", e, bad)
		}
	}
}

// dice are numbers with nothing regular in them, the same ones in each run.
type dice uint64

func (d *dice) upTo(n int) int {
	*d = *d*6364136223846793005 + 1442695040888963407
	return int(uint64(*d>>33) % uint64(n))
}

func (d *dice) pick(l ...int) int {
	return l[d.upTo(len(l))]
}

func (d *dice) coin() bool {
	return d.upTo(2) == 0
}

// page is one of few, so that many are met again.
func (d *dice) page() int {
	return 512*d.pick(0, 0, 5) + 64*d.pick(0, 0, 5) + 8*d.pick(0, 0, 5) + d.pick(0, 0, 5)
}

// entry may be, mostly.
func (d *dice) entry() api.Entry {
	e := api.Entry{Kind: d.pick(1, 2, 3), VMID: d.upTo(2), Page: d.page(), Frame: d.upTo(4)}
	a := api.Attr{R: d.coin(), W: d.coin(), X: d.coin(), AF: d.coin()}
	switch e.Kind {
	case api.EntMid:
		e.All, e.Attr = true, a
	case api.EntWhole:
		e.ASID, e.All, e.Mid, e.Attr = d.upTo(2), d.upTo(3) == 0, d.upTo(2), a
		e.NG = d.coin()
	default:
		e.ASID, e.All, e.Level = d.upTo(2), d.upTo(3) == 0, 1+d.upTo(3)
		e.Page -= e.Page % (1 << (3 * (4 - e.Level)))
	}
	if d.upTo(64) == 0 {
		l, most := numbers(&e)
		i := d.upTo(len(l))
		*l[i] = d.pick(-1, most[i]+1, 1)
	}
	return e
}

// tlb is one that may be, mostly.
func (d *dice) tlb() (x api.TLB) {
	for range d.pick(0, 1, 3, 6, 8, 8, 8, 8) {
		if e := d.entry(); !slices.Contains(x.Entries, e) || d.upTo(20) == 0 {
			x.Entries = append(x.Entries, e)
		}
	}
	for range d.upTo(9) {
		x.Due = append(x.Due, api.Inval{Kind: 1 + d.upTo(6), VMID: d.upTo(2), ASID: d.upTo(2), Page: d.page()})
	}
	return x
}

// P9.1, P9.2: TLBs of all kinds, as the document's words say them once more.
func TestMany(t *testing.T) {
	d := dice(9)
	ends := map[[2]int]int{}
	for range 20000 {
		x := d.tlb()
		checkCheck(t, x)
		vmid, asid, page, acc := d.upTo(2), d.upTo(2), d.page(), d.upTo(3)
		checkWhole(t, x, vmid, asid, page, acc)
		checkMid(t, x, vmid, page, acc)
		checkWalk(t, x, vmid, asid, page)
		for _, e := range x.Entries {
			checkWhole(t, x, e.VMID, asid, e.Page, acc)
			checkMid(t, x, e.VMID, e.Page, acc)
			near := e.Page + d.page()%(1<<(3*(4-min(max(e.Level, 1), 3))))
			checkWalk(t, x, e.VMID, asid, near)
			found, bad := slowWalk(x, e.VMID, asid, near)
			ends[[2]int{found.Level, int(bad)}]++
		}
		checkFill(t, x, d.entry())
		for i := -1; i <= len(x.Entries); i++ {
			checkDrop(t, x, i)
		}
	}
	if len(ends) != 5 {
		t.Errorf("%v", ends)
	}
}

// P9.1: each page, over entries of each kind that have it, and over some that do not.
func TestEachPage(t *testing.T) {
	x := api.TLB{Entries: []api.Entry{
		table(1, 2, 0o1000, 1, 30), table(1, 2, 0o1200, 2, 31), table(1, 2, 0o1230, 3, 32), table(1, 2, 0o1230, 3, 33),
		table(1, 3, 0, 1, 34), whole(1, 2, 0o1234, 35), middle(1, 0o1234, 36), whole(1, 2, 0o1230, 37),
	}}
	x.Entries[4].All = true
	for page := range 4096 {
		for acc := range 3 {
			checkWhole(t, x, 1, 2, page, acc)
			checkMid(t, x, 1, page, acc)
		}
		for _, who := range [][2]int{{1, 2}, {1, 3}, {1, 0}, {0, 2}, {2, 3}} {
			checkWalk(t, x, who[0], who[1], page)
		}
	}
}

// P9.1: each machine and each address space, over entries of one and of all.
func TestEachTag(t *testing.T) {
	for _, everyone := range []bool{false, true} {
		for tag := range 16 {
			w, b := whole(tag, 15-tag, 0, 1), table(tag, 15-tag, 0, 2, 1)
			w.All, b.All = everyone, everyone
			x := api.TLB{Entries: []api.Entry{w, b, middle(tag, 0, 1)}}
			for vmid := -1; vmid <= 16; vmid++ {
				checkMid(t, x, vmid, 0, api.AccRead)
				for asid := -1; asid <= 16; asid++ {
					checkWhole(t, x, vmid, asid, 0, api.AccRead)
					checkWalk(t, x, vmid, asid, 0)
				}
			}
		}
	}
}

// P9.1: the first one that lets the access be; AF and NG are not asked.
func TestFirstThatMay(t *testing.T) {
	for one := range 32 {
		for two := range 32 {
			x := api.TLB{}
			for i, bits := range []int{one, two} {
				w, m := whole(1, 2, 3, i), middle(1, 3, i)
				w.Attr = api.Attr{R: bits&1 > 0, W: bits&2 > 0, X: bits&4 > 0, AF: bits&8 > 0, NG: bits&16 > 0}
				m.Attr = w.Attr
				m.NG = false
				x.Entries = append(x.Entries, w, m)
			}
			for acc := range 3 {
				checkWhole(t, x, 1, 2, 3, acc)
				checkMid(t, x, 1, 3, acc)
			}
		}
	}
}

// P9.1, R4: numbers that are none are told ahead of there being no entry, and of a TLB that may not be nothing else is.
func TestWrongAsks(t *testing.T) {
	full := api.TLB{Entries: []api.Entry{whole(1, 2, 0, 1), middle(1, 0, 1), table(1, 2, 0, 3, 1)}}
	for _, x := range []api.TLB{{}, full, {Entries: []api.Entry{{}}}, {Due: []api.Inval{{}}}} {
		for i, most := range []int{15, 15, 4095, 2} {
			for _, n := range append(bad(most), 0, 1, most) {
				a := [4]int{1, 2, 0, 0}
				a[i] = n
				checkWhole(t, x, a[0], a[1], a[2], a[3])
				if i != 1 {
					checkMid(t, x, a[0], a[2], a[3])
				}
				if i != 3 {
					checkWalk(t, x, a[0], a[1], a[2])
				}
			}
		}
	}
}

// P9.2, R4: places that there are not; an entry that may not be where there is no room, and beside one that is.
func TestWrongPlaces(t *testing.T) {
	x := api.TLB{Due: []api.Inval{{Kind: api.InvAll}}}
	for n := range 9 {
		for _, i := range append(bad(8), 0, 1, 7, 8, n-1, n, n+1) {
			checkDrop(t, x, i)
		}
		for _, e := range []api.Entry{{}, {Kind: 4}, whole(16, 0, 0, 0), whole(0, 0, 0, 0), whole(0, 0, n, n)} {
			checkFill(t, x, e)
		}
		bad := api.TLB{Entries: x.Entries, Due: []api.Inval{{Kind: 7}}}
		checkFill(t, bad, whole(0, 0, 0, 0))
		checkDrop(t, bad, 0)
		checkDrop(t, bad, 99)
		x.Entries = append(x.Entries, whole(0, 0, n, n))
	}
}

// P9.3: after any course of Fill and Drop each entry was filled, and none that was dropped is there unless filled again.
func TestOnlyWhatWasFilled(t *testing.T) {
	d := dice(4)
	for range 200 {
		x, model := api.TLB{}, []api.Entry{}
		for range 60 {
			if i := d.upTo(12); d.upTo(3) == 0 && i < len(model) {
				x, _ = tlb.Drop(x, i)
				model = slices.Delete(model, i, i+1)
			} else if e := d.entry(); slowEntry(e) {
				x, _ = tlb.Fill(x, e)
				if len(model) < 8 && !slices.Contains(model, e) {
					model = append(model, e)
				}
			}
			if !slices.Equal(x.Entries, model) || tlb.Check(x) != api.OK {
				t.Fatalf("%+v, not %+v", x.Entries, model)
			}
			for _, ask := range []func() (api.Entry, api.Errno){
				func() (api.Entry, api.Errno) { return tlb.Whole(x, d.upTo(2), d.upTo(2), d.page(), d.upTo(3)) },
				func() (api.Entry, api.Errno) { return tlb.Mid(x, d.upTo(2), d.page(), d.upTo(3)) },
				func() (api.Entry, api.Errno) { return tlb.Walk(x, d.upTo(2), d.upTo(2), d.page()) },
			} {
				if e, bad := ask(); bad == api.OK && !slices.Contains(model, e) {
					t.Fatalf("%+v is not of %+v", e, model)
				}
			}
		}
	}
}

// roomy is a TLB with spare room behind both lists, and all of that room.
func roomy(entries, dues int) (x api.TLB, room api.TLB) {
	for i := range 12 {
		room.Entries = append(room.Entries, whole(1, 1, i, i))
		room.Due = append(room.Due, api.Inval{Kind: api.InvMid, Page: i})
	}
	return api.TLB{Entries: room.Entries[:entries], Due: room.Due[:dues]}, room
}

// spoil writes into all of a TLB's room, and behind it.
func spoil(x api.TLB) {
	for _, l := range [][]api.Entry{x.Entries, x.Entries[:cap(x.Entries)], append(x.Entries, api.Entry{Kind: 99})} {
		for i := range l {
			l[i] = api.Entry{Kind: 98}
		}
	}
	for _, l := range [][]api.Inval{x.Due, x.Due[:cap(x.Due)], append(x.Due, api.Inval{Kind: 99})} {
		for i := range l {
			l[i] = api.Inval{Kind: 98}
		}
	}
}

// R1, R2: what is handed in stays, its spare room too; what is told is new, and the same call tells the same.
func TestLeavesAll(t *testing.T) {
	for entries := range 9 {
		for dues := range 9 {
			x, room := roomy(entries, dues)
			_, old := roomy(entries, dues)
			calls := []func() (api.TLB, api.Errno){
				func() (api.TLB, api.Errno) { return tlb.Fill(x, middle(2, 2, 2)) },
				func() (api.TLB, api.Errno) { return tlb.Fill(x, whole(1, 1, 0, 0)) },
				func() (api.TLB, api.Errno) { return tlb.Drop(x, 0) },
				func() (api.TLB, api.Errno) { return tlb.Drop(x, entries-1) },
				func() (api.TLB, api.Errno) { return tlb.Drop(x, entries) },
			}
			for i, call := range calls {
				one, e := call()
				two, f := call()
				kept := api.TLB{Entries: slices.Clone(two.Entries), Due: slices.Clone(two.Due)}
				if !same(one, two) || e != f {
					t.Fatalf("%d, %d, call %d: %+v, then %+v", entries, dues, i, one, two)
				}
				spoil(one)
				if !same(room, old) || !same(two, kept) {
					t.Fatalf("%d, %d, call %d: what was told is shared", entries, dues, i)
				}
			}
		}
	}
}

// R2: a nil list and an empty one are one.
func TestNothing(t *testing.T) {
	for _, x := range []api.TLB{{}, {Entries: []api.Entry{}}, {Due: []api.Inval{}}, {Entries: []api.Entry{}, Due: []api.Inval{}}} {
		checkCheck(t, x)
		checkWhole(t, x, 0, 0, 0, 0)
		checkMid(t, x, 0, 0, 0)
		checkWalk(t, x, 0, 0, 0)
		checkFill(t, x, whole(0, 0, 0, 0))
		checkDrop(t, x, 0)
	}
}

// R1: lists that are far too long are refused.
func TestLong(t *testing.T) {
	x := api.TLB{Entries: make([]api.Entry, 1<<20), Due: make([]api.Inval, 1<<20)}
	for i := range x.Entries {
		x.Entries[i] = whole(1, i%16, i/16%4096, i>>16)
		x.Due[i] = api.Inval{Kind: api.InvAll}
	}
	for _, y := range []api.TLB{x, {Entries: x.Entries}, {Due: x.Due}, {Entries: x.Entries[:9]}, {Due: x.Due[:9]}} {
		if e := tlb.Check(y); e != api.ErrForm {
			t.Errorf("%d", e)
		}
		checkWhole(t, y, 1, 0, 0, 0)
		checkFill(t, y, whole(0, 0, 0, 0))
		checkDrop(t, y, 0)
	}
}

package access_test

import (
	"fmt"
	"math"
	"slices"
	"testing"

	"bulwark/access"
	"bulwark/api"
	"bulwark/desc"
	"bulwark/nest"
	"bulwark/tlb"
)

// slow is the document's Page, written once more: each level of stage 1 calls the next, what is remembered is a list.
type slow struct {
	asked
	l    []api.Entry
	read []int
}

func slowPage(a asked) told {
	s := slow{asked: a}
	for i, e := range a.t.Entries {
		if i != a.pick.Drop {
			s.l = append(s.l, e)
		}
	}
	h, f := s.end()
	return told{frame: h.Frame, f: f, t: api.TLB{Entries: s.l, Due: a.t.Due}, read: s.read}
}

func right(a api.Attr, acc int) bool {
	return []bool{a.R, a.W, a.X}[acc]
}

func (s *slow) fill(want bool, e api.Entry) {
	if want && len(s.l) < 8 && !slices.Contains(s.l, e) {
		s.l = append(s.l, e)
	}
}

// find is the first entry that is so, if the TLB is asked.
func (s *slow) find(is func(api.Entry) bool) (api.Entry, bool) {
	if i := slices.IndexFunc(s.l, is); s.pick.Use && i >= 0 {
		return s.l[i], true
	}
	return api.Entry{}, false
}

func (s *slow) isOurs(e api.Entry) bool {
	return e.VMID == s.two.Tag && (e.All || e.ASID == s.one.Tag)
}

func (s *slow) end() (api.Hit, api.Fault) {
	if !s.one.On {
		return s.mid(s.page, s.acc)
	}
	e, ok := s.find(func(e api.Entry) bool {
		return e.Kind == api.EntWhole && s.isOurs(e) && e.Page == s.page && right(e.Attr, s.acc)
	})
	if ok {
		return api.Hit{Frame: e.Frame}, api.Fault{}
	}
	h, f := s.begin()
	if f.Kind == api.FaultNone {
		s.fill(s.pick.Fill, api.Entry{Kind: api.EntWhole, VMID: s.two.Tag, ASID: s.one.Tag, All: !h.NG, Page: s.page, Frame: h.Frame, Mid: h.Mid, Attr: h.Attr})
	}
	return h, f
}

func (s *slow) begin() (api.Hit, api.Fault) {
	for level := 3; level > 0; level-- {
		first := s.page / (sizes[level] * 8) * (sizes[level] * 8)
		e, ok := s.find(func(e api.Entry) bool {
			return e.Kind == api.EntWalk && e.Level == level && s.isOurs(e) && e.Page == first
		})
		if ok {
			return s.table(level, e.Frame)
		}
	}
	return s.enter(0, s.one.Frame)
}

func (s *slow) enter(level, mid int) (api.Hit, api.Fault) {
	h, f := s.mid(mid, api.AccRead)
	if f.Kind != api.FaultNone {
		f.Walk = true
		return api.Hit{}, f
	}
	first := s.page / (sizes[level] * 8) * (sizes[level] * 8)
	s.fill(s.pick.Walk && level > 0, api.Entry{Kind: api.EntWalk, VMID: s.two.Tag, ASID: s.one.Tag, Page: first, Level: level, Frame: h.Frame})
	return s.table(level, h.Frame)
}

func (s *slow) table(level, frame int) (api.Hit, api.Fault) {
	s.read = append(s.read, frame)
	d, _ := desc.Of(1, level, s.m.Words[8*frame+s.page/sizes[level]%8])
	f := api.Fault{Stage: 1, Level: level, Page: s.page}
	switch {
	case d.Kind == api.DescTable:
		return s.enter(level+1, d.Frame)
	case d.Kind == api.DescNone:
		f.Kind = api.FaultTrans
	case !d.AF:
		f.Kind = api.FaultFlag
	case !right(d.Attr, s.acc):
		f.Kind = api.FaultPerm
	default:
		h, f := s.mid(d.Frame+s.page%sizes[level], s.acc)
		if f.Kind != api.FaultNone {
			return api.Hit{}, f
		}
		h.Attr = api.Attr{R: d.R && h.R, W: d.W && h.W, X: d.X && h.X, AF: d.AF && h.AF, NG: d.NG}
		return h, f
	}
	return api.Hit{}, f
}

func (s *slow) mid(page, acc int) (api.Hit, api.Fault) {
	e, ok := s.find(func(e api.Entry) bool {
		return e.Kind == api.EntMid && e.VMID == s.two.Tag && e.Page == page && right(e.Attr, acc)
	})
	if ok {
		return api.Hit{Frame: e.Frame, Mid: page, Attr: e.Attr}, api.Fault{}
	}
	h, f, read, _ := nest.Mid(s.m, s.two, page, acc)
	s.read = append(s.read, read...)
	if f.Kind == api.FaultNone {
		a := api.Attr{R: h.R, W: h.W, X: h.X, AF: h.AF}
		s.fill(s.pick.Mids, api.Entry{Kind: api.EntMid, VMID: s.two.Tag, All: true, Page: page, Frame: h.Frame, Attr: a})
	}
	return h, f
}

// dice are numbers with nothing regular in them, the same ones in each run.
type dice uint64

func (d *dice) upTo(n int) int {
	*d = *d*6364136223846793005 + 1442695040888963407
	return int(uint64(*d>>33) % uint64(n))
}

// mostly is so, but once in n times.
func (d *dice) mostly(n int) bool {
	return d.upTo(n) > 0
}

func (d *dice) one(l []int) int {
	return l[d.upTo(len(l))]
}

// smallPage is one of few: those whose digits are 0 and 1. So they meet.
func (d *dice) smallPage() (page int) {
	for range 4 {
		page = 8*page + d.upTo(2)
	}
	return page
}

func (d *dice) attr() api.Attr {
	return api.Attr{R: d.mostly(6), W: d.mostly(3), X: d.mostly(3), AF: d.mostly(12)}
}

// world is a memory with tables of both stages, all in use for few pages: frames 0 to 8 are stage 2's tables, 9 to 20 those of stage 1, three a level.
type world struct {
	ground
	first []int // where stage 1 may begin
}

func worldOf(d *dice, frames int) world {
	w := world{ground: groundOf(frames)}
	for level, tables := range [][]int{{0}, {1, 2}, {3, 4}, {5, 6, 7, 8}} {
		for _, frame := range tables {
			for slot := range 2 {
				w.lay(2, level, frame, slot*sizes[level], d.down(level, frames))
			}
		}
	}
	mids := w.reached()
	for level := range 4 {
		for frame := 9 + 3*level; frame < 12+3*level; frame++ {
			for slot := range 2 {
				w.lay(1, level, frame, slot*sizes[level], d.up(level, mids))
			}
		}
	}
	w.first = mids[0]
	return w
}

// down is a descriptor of stage 2.
func (d *dice) down(level, frames int) api.Desc {
	switch {
	case !d.mostly(32):
		return api.Desc{Note: d.upTo(6)}
	case level == 0 || level < 3 && d.mostly(6):
		return tableAt([]int{1, 3, 5}[level] + d.upTo([]int{2, 2, 4}[level]))
	}
	x := leafAt(d.upTo(frames)/sizes[level]*sizes[level], d.attr())
	x.Soft = d.upTo(16)
	if level == 3 && d.mostly(4) {
		x.Frame = 9 + d.upTo(12)
		x.R, x.AF = true, true
	}
	return x
}

// up is a descriptor of stage 1: tables lead to where stage 2 leads to one of the next level, mostly.
func (d *dice) up(level int, mids [5][]int) api.Desc {
	switch {
	case !d.mostly(32):
		return api.Desc{}
	case level == 0 || level < 3 && d.mostly(4):
		if d.mostly(16) && len(mids[level+1]) > 0 {
			return tableAt(d.one(mids[level+1]))
		}
		return tableAt(d.smallPage())
	}
	x := leafAt(d.smallPage()/sizes[level]*sizes[level], d.attr())
	x.R, x.NG = true, d.mostly(3)
	return x
}

// reached are the small pages that stage 2 lets be read, by the level of stage 1 whose tables they lead to; the last ones are all others.
func (w world) reached() (l [5][]int) {
	for i := range 16 {
		page := i&1 | i&2<<2 | i&4<<4 | i&8<<6
		h, f, _, _ := nest.Mid(w.Mem, api.Root{On: true}, page, api.AccRead)
		switch {
		case f.Kind != api.FaultNone:
		case h.Frame >= 9 && h.Frame < 21:
			l[(h.Frame-9)/3] = append(l[(h.Frame-9)/3], page)
		default:
			l[4] = append(l[4], page)
		}
	}
	return l
}

func (d *dice) pick() api.Pick {
	p := picks()[d.upTo(16)]
	p.CPU, p.Drop = d.upTo(3), d.upTo(12)-2
	return p
}

// entry is one that may be remembered: of who asks, mostly; and as memory has it, sometimes.
func (d *dice) entry(w world, a asked) api.Entry {
	e := api.Entry{Kind: 1 + d.upTo(3), VMID: a.two.Tag, ASID: a.one.Tag, All: d.upTo(3) == 0, Page: d.smallPage(), Frame: d.upTo(len(w.Words) / 8)}
	if d.mostly(2) {
		e.Page = a.page
	}
	if !d.mostly(6) {
		e.VMID = d.upTo(16)
	}
	if !d.mostly(6) {
		e.ASID = d.upTo(16)
	}
	switch e.Kind {
	case api.EntWhole:
		e.Attr, e.Mid = d.attr(), d.smallPage()
		e.NG = d.mostly(2)
	case api.EntMid:
		e.Attr, e.ASID, e.All = d.attr(), 0, true
		if h, f, _, _ := nest.Mid(w.Mem, a.two, e.Page, api.AccRead); f.Kind == api.FaultNone && d.mostly(3) {
			e.Frame = h.Frame
		}
	case api.EntWalk:
		e.Level = 1 + d.upTo(3)
		e.Page = e.Page / (8 * sizes[e.Level]) * (8 * sizes[e.Level])
		if d.mostly(3) {
			e.Frame = 9 + 3*e.Level + d.upTo(3)
		}
	}
	return e
}

// asks are some for a world.
func (d *dice) ask(w world) asked {
	a := asked{m: w.Mem, page: d.smallPage(), acc: d.upTo(3), pick: d.pick()}
	a.one = api.Root{On: d.mostly(6), Frame: d.smallPage(), Tag: d.upTo(16)}
	a.two = api.Root{On: true, Tag: d.upTo(16)}
	if len(w.first) > 0 && d.mostly(12) {
		a.one.Frame = d.one(w.first)
	}
	if !d.mostly(24) {
		a.two.Frame = d.upTo(len(w.Words)/8 + 3)
	}
	for range d.upTo(api.MaxTLB + 1) {
		if e := d.entry(w, a); !slices.Contains(a.t.Entries, e) {
			a.t.Entries = append(a.t.Entries, e)
		}
	}
	for range d.upTo(3) {
		a.t.Due = append(a.t.Due, api.Inval{Kind: 1 + d.upTo(6), VMID: d.upTo(16), Page: d.smallPage()})
	}
	return a
}

// many calls f with accesses of all kinds.
func many(seed dice, f func(d *dice, w world, a asked)) {
	for frames := 24; frames <= 64; frames += 5 {
		for range 10 {
			w := worldOf(&seed, frames)
			for range 128 {
				f(&seed, w, seed.ask(w))
			}
		}
	}
}

// P14.1: accesses of all kinds, as the document's words say them once more.
func TestMany(t *testing.T) {
	ends, fills, reads := map[string]int{}, map[int]int{}, map[int]int{}
	many(3, func(d *dice, w world, a asked) {
		want := slowPage(a)
		a.check(t, "many", want)
		if tlb.Check(want.t) != api.OK {
			t.Fatalf("%+v may not be", want.t)
		}
		if a.one.On {
			ends[fmt.Sprint(want.f.Kind, want.f.Stage, want.f.Walk, want.f.Level)]++
		}
		for _, e := range want.t.Entries {
			if !slices.Contains(a.t.Entries, e) {
				fills[e.Kind]++
			}
		}
		reads[len(want.read)]++
	})
	// A Frame; of stage 1 FaultTrans at levels 0 to 3, FaultFlag and FaultPerm at 1 to 3; these of stage 2, with Walk and without; FaultSize at what levels it comes.
	if len(ends) < 1+3*(4+3+3)+2 || fills[api.EntWhole] < 200 || fills[api.EntMid] < 200 || fills[api.EntWalk] < 200 || reads[0] < 200 || reads[24] < 100 {
		t.Errorf("what was met: %v, %v, %v", ends, fills, reads)
	}
}

// P14.2: with nothing remembered it is nest.Trans: its Frame, its Fault, and what it reads, unless what is filled on the way is asked on it.
func TestNothingRemembered(t *testing.T) {
	many(5, func(d *dice, w world, a asked) {
		a.t.Entries = nil
		got := a.call()
		h, f, read, e := nest.Trans(a.m, a.one, a.two, a.page, a.acc)
		if got.e != e || got.f != f || got.frame != h.Frame {
			t.Fatalf("%+v: %+v, but %+v, %+v", a, got, h, f)
		}
		if !(a.pick.Use && a.pick.Mids) && !slices.Equal(got.read, read) || !isWithin(got.read, read) {
			t.Fatalf("%+v: reads %v, but %v", a, got.read, read)
		}
	})
}

// isWithin says whether all of a is in b, in that order.
func isWithin(a, b []int) bool {
	for _, n := range b {
		if len(a) > 0 && a[0] == n {
			a = a[1:]
		}
	}
	return len(a) == 0
}

// P14.2: with entries that are all as memory has it it is nest.Trans, too: whatever was filled by other accesses of the same tables, of any address space and machine.
func TestRememberedAsItIs(t *testing.T) {
	d, less := dice(7), 0
	for range 400 {
		w := worldOf(&d, 24+d.upTo(41))
		one := d.ask(w).one
		one.On = true
		var x api.TLB
		for range 64 {
			a := d.ask(w)
			a.t, a.one.Frame, a.two.Frame = x, one.Frame, 0
			a.one.Tag, a.two.Tag = d.upTo(2), d.upTo(2)
			got := a.call()
			h, f, read, e := nest.Trans(a.m, a.one, a.two, a.page, a.acc)
			if got.e != e || got.f != f || got.frame != h.Frame || !isWithin(got.read, read) {
				t.Fatalf("%+v: %+v, but %+v, %+v, %v", a, got, h, f, read)
			}
			if len(got.read) < len(read) {
				less++
			}
			x = got.t
		}
	}
	if less < 1000 {
		t.Errorf("only %d times less was read", less)
	}
}

// P14.1: frames that were not told count nowhere: with other words in them the answer is the same.
func TestOtherFramesDoNotCount(t *testing.T) {
	many(11, func(d *dice, w world, a asked) {
		want := a.call()
		x := worldOf(d, len(w.Words)/8)
		for _, frame := range want.read {
			copy(x.Words[8*frame:8*frame+8], w.Words[8*frame:])
		}
		a.m = x.Mem
		a.check(t, "other words elsewhere", want)
	})
}

// P14.1: entries of other machines count nowhere, but for their room; they stay.
func TestOthersDoNotCount(t *testing.T) {
	many(13, func(d *dice, w world, a asked) {
		for i := range a.t.Entries {
			a.t.Entries[i].VMID = (a.two.Tag + 1) % 16
		}
		a.t.Entries = slices.Compact(a.t.Entries)
		if a.pick.Drop >= 0 || tlb.Check(a.t) != api.OK {
			return
		}
		got, alone := a.call(), a
		alone.t.Entries = nil
		want := alone.call()
		n := len(a.t.Entries)
		if !slices.Equal(got.t.Entries[:n], a.t.Entries) || got.frame != want.frame || got.f != want.f {
			t.Fatalf("%+v: %+v, alone %+v", a, got, want)
		}
		filled := want.t.Entries[:min(len(want.t.Entries), api.MaxTLB-n)]
		if !slices.Equal(got.t.Entries[n:], filled) {
			t.Fatalf("%+v: %+v, not %+v", a, got.t.Entries[n:], filled)
		}
	})
}

// none are numbers that are none from 0 to most; some come back among those where bits are lost.
func none(most int) []int {
	return []int{math.MinInt, math.MinInt + 1, -1 << 32, -most - 1, -8, -2, -1, most + 1, most + 2, 2*most + 2, 1 << 16, 1 << 32, 1<<32 + 1, 1 << 62, math.MaxInt - most, math.MaxInt}
}

// badMems are memories that may not be: no words, no whole frames, too many.
func badMems() (l []api.Mem) {
	l = append(l, api.Mem{}, api.Mem{Words: []uint64{}})
	for _, n := range []int{1, 7, 9, 15, 17, 8*64 - 1, 8*64 + 1, 8 * 65, 8 * 128} {
		l = append(l, api.Mem{Words: make([]uint64, n)})
	}
	return l
}

// badTLBs are those that may not be, each by one thing.
func badTLBs() (l []api.TLB) {
	for _, e := range courseEntries() {
		for _, kind := range []int{-1, 0, 4} {
			x := e
			x.Kind = kind
			l = append(l, api.TLB{Entries: []api.Entry{x}})
		}
		for range 2 {
			e.Soft++
			l = append(l, api.TLB{Entries: []api.Entry{e}})
		}
		e.Soft = 0
		l = append(l, api.TLB{Entries: []api.Entry{e, e}})
	}
	var many []api.Entry
	for i := range api.MaxTLB + 1 {
		many = append(many, midEntry(i, i, "r"))
	}
	l = append(l, api.TLB{Entries: many}, api.TLB{Due: []api.Inval{{}}}, api.TLB{Due: []api.Inval{{Kind: 7}}}, api.TLB{Due: []api.Inval{{Kind: 1, Page: 4096}}})
	nine := slices.Repeat([]api.Inval{{Kind: api.InvAll}}, api.MaxDue+1)
	return append(l, api.TLB{Due: nine})
}

// faulty are asks that are unlawful by one thing each.
func faulty() (l []asked) {
	add := func(change func(a *asked)) {
		a := courseAsk(courseEntries()[8])
		change(&a)
		l = append(l, a)
	}
	for _, m := range badMems() {
		add(func(a *asked) { a.m = m })
		add(func(a *asked) { a.m, a.t = m, api.TLB{} })
	}
	for _, x := range badTLBs() {
		add(func(a *asked) { a.t = x })
	}
	for _, n := range none(api.MaxPage) {
		add(func(a *asked) { a.one.Frame = n })
		add(func(a *asked) { a.one = api.Root{Frame: n} })
		add(func(a *asked) { a.two.Frame = n })
		add(func(a *asked) { a.page = n })
	}
	for _, n := range none(api.MaxTag) {
		add(func(a *asked) { a.one.Tag = n })
		add(func(a *asked) { a.one = api.Root{Tag: n} })
		add(func(a *asked) { a.two.Tag = n })
	}
	for _, n := range none(api.AccExec) {
		add(func(a *asked) { a.acc = n })
	}
	add(func(a *asked) { a.two.On = false })
	add(func(a *asked) { a.two = api.Root{} })
	return append(l, beyond()...)
}

// beyond are asks with an entry whose frame is none of the memory's: of each kind and machine, at each place, be it dropped or never asked.
func beyond() (l []asked) {
	for i, e := range courseEntries() {
		for _, vmid := range []int{courseVMID, 9} {
			for _, frame := range []int{courseFrames, courseFrames + 1, api.MaxPage} {
				rest := slices.Delete(courseEntries(), i, i+1)[:7]
				e.VMID, e.Frame = vmid, frame
				a := courseAsk(slices.Insert(rest, i%8, e)...)
				l = append(l, a)
				a.pick.Drop = i % 8
				l = append(l, a)
				a.one.On = false
				l = append(l, a)
			}
		}
	}
	return l
}

// P14.1, R4: ErrForm of each thing that may not be, alone and two together, whatever is chosen; nothing beside it.
func TestForm(t *testing.T) {
	l := faulty()
	for i, a := range l {
		for _, p := range picks() {
			p.Drop = a.pick.Drop
			a.pick = p
			a.check(t, fmt.Sprint("faulty ", i), told{e: api.ErrForm})
		}
	}
	for i, a := range l {
		for _, page := range []int{coursePage, -1, api.MaxPage + 1} {
			a.page, a.acc, a.two.On = page, 3, page > 0
			a.check(t, fmt.Sprint("more than faulty ", i), told{e: api.ErrForm})
		}
	}
}

// P14.1: the ends of what may be: frames of roots up to MaxPage, tags up to MaxTag, and the memory's last frame in an entry.
func TestLawfulEnds(t *testing.T) {
	for _, frame := range []int{courseFrames, courseFrames + 1, api.MaxPage} {
		a := courseAsk().with("ufmw")
		a.two.Frame = frame
		want := a.answer(0, nil)
		want.f = api.Fault{Kind: api.FaultSize, Stage: 2, Walk: true, Page: courseMids[0]}
		a.check(t, "stage 2 beyond", want)
		a = courseAsk().with("ufmw")
		a.one.Frame = frame
		want.f, want.read = api.Fault{Kind: api.FaultTrans, Stage: 2, Walk: true, Page: frame}, []int{0}
		a.check(t, "stage 1 beyond", want)
		a.one.On = false
		a.page = courseMids[4]
		a.check(t, "stage 1 beyond, not on", a.answer(courseEnd, courseWay[20:], midEntry(courseMids[4], courseEnd, "rwxa")))
	}
	for tag := range api.MaxTag + 1 {
		a := courseAsk().with("f")
		a.one.Tag, a.two.Tag = tag, api.MaxTag-tag
		e := courseEntries()[8]
		e.ASID, e.VMID = tag, api.MaxTag-tag
		a.check(t, "tags", a.answer(courseEnd, courseWay, e))
	}
	for page := range api.MaxPage + 1 {
		e := wholeEntry(page, courseFrames-1, api.MaxPage, "rwx")
		a := courseAsk(e).with("u")
		a.page = page
		a.check(t, "each page", a.answer(courseFrames-1, nil, e))
	}
}

// R1, R2: what is handed in stays, its spare room too; what is told is new, and the same call tells the same.
func TestLeavesAll(t *testing.T) {
	many(17, func(d *dice, w world, a asked) {
		spare := slices.Repeat([]api.Entry{midEntry(1, 77, "r")}, 12)
		due := slices.Repeat([]api.Inval{{Kind: 99}}, 6)
		n, k := copy(spare, a.t.Entries), copy(due, a.t.Due)
		a.t = api.TLB{Entries: spare[:n], Due: due[:k]}
		words := slices.Clone(a.m.Words)
		oldSpare, oldDue := slices.Clone(spare), slices.Clone(due)
		one, two := a.call(), a.call()
		if !one.same(two) {
			t.Fatalf("%+v: %+v, then %+v", a, one, two)
		}
		kept := told{two.frame, two.f, api.TLB{Entries: slices.Clone(two.t.Entries), Due: slices.Clone(two.t.Due)}, slices.Clone(two.read), two.e}
		spoil(one)
		if !two.same(kept) || !a.call().same(kept) {
			t.Fatalf("%+v: two answers share memory", a)
		}
		if !slices.Equal(a.m.Words, words) || !slices.Equal(spare, oldSpare) || !slices.Equal(due, oldDue) {
			t.Fatalf("%+v has changed", a)
		}
	})
}

// spoil writes over all that was told, and behind it.
func spoil(a told) {
	entries := append(a.t.Entries, slices.Repeat([]api.Entry{{Kind: 8}}, 4)...)
	due := append(a.t.Due, slices.Repeat([]api.Inval{{Kind: 8}}, 4)...)
	read := append(a.read, 1, 2, 3, 4)
	for i := range entries {
		entries[i] = api.Entry{Frame: -5}
	}
	for i := range due {
		due[i] = api.Inval{Page: -5}
	}
	for i := range read {
		read[i] = -5
	}
}

// R2: a nil list and an empty one are one.
func TestNilAndEmpty(t *testing.T) {
	for _, p := range picks() {
		a := courseAsk()
		a.pick, a.t = p, api.TLB{}
		b := a
		b.t = api.TLB{Entries: []api.Entry{}, Due: []api.Inval{}}
		b.check(t, "empty lists", a.call())
	}
	frame, f, x, read, e := access.Page(course().Mem, api.TLB{}, api.Root{}, api.Root{On: true}, coursePage, api.AccRead, api.Pick{})
	if frame != 0 || f.Kind != api.FaultTrans || len(x.Entries)+len(x.Due) != 0 || !slices.Equal(read, []int{0}) || e != api.OK {
		t.Errorf("%d, %+v, %+v, %v, %v", frame, f, x, read, e)
	}
}

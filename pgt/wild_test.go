package pgt_test

import (
	"fmt"
	"maps"
	"slices"
	"testing"

	"bulwark/api"
	"bulwark/desc"
	"bulwark/pgt"
	"bulwark/walk"
)

// dice are numbers with nothing regular in them, the same ones in each run.
type dice uint64

func (d *dice) upTo(n int) int {
	*d = *d*6364136223846793005 + 1442695040888963407
	return int(uint64(*d>>33) % uint64(n))
}

func (d *dice) one(l ...int) int {
	return l[d.upTo(len(l))]
}

// mostly is so, but once in n times.
func (d *dice) mostly(n int) bool {
	return d.upTo(n) > 0
}

// page is one of few, most often: those whose digits are 0 and 1. So they meet.
func (d *dice) page() (mid int) {
	if !d.mostly(64) {
		return d.one(-1, 4096)
	}
	for range 4 {
		mid = 8*mid + d.upTo(2)
	}
	return mid
}

func (d *dice) leaf(level int) api.Desc {
	a := api.Attr{R: d.mostly(4), W: d.mostly(2), X: d.mostly(2), AF: d.mostly(8), Soft: d.upTo(16)}
	return api.Desc{Kind: api.DescLeaf, Frame: d.upTo(4096) / sizes[level] * sizes[level], Attr: a}
}

// any is a descriptor that may be at that level, most often; of tables, seldom one that is not there.
func (d *dice) any(level, frames int) api.Desc {
	switch k := d.upTo(32); {
	case k == 0:
		return d.leaf(3)
	case k == 1:
		return tableAt(d.one(frames, 4095, 4096))
	case k < 6:
		return note(d.upTo(17))
	case k < 12:
		return note(0)
	case k < 16 && level > 0 || level == 3:
		return d.leaf(level)
	}
	return tableAt(d.upTo(frames))
}

// free is a list of frames, most often such as may be free.
func (d *dice) free(frames int) (l []int) {
	for range d.upTo(5) {
		f := d.upTo(frames)
		for d.mostly(16) && slices.Contains(l, f) {
			f = d.upTo(frames)
		}
		l = append(l, f)
	}
	if !d.mostly(16) {
		l = append(l, d.one(-1, frames))
	}
	return l
}

// wildOf is a memory of tables that lead anywhere, to themselves, too.
func wildOf(d *dice, frames int) ground {
	g := groundOf(frames)
	for i := range g.Words {
		level := d.upTo(4)
		if x := d.any(level, frames); desc.Check(2, level, x) == api.OK {
			g.Words[i] = wordOf(level, x)
		}
	}
	return g
}

// end is where the document's walk ends, written once more: each level calls the next.
type end struct {
	level int
	d     api.Desc
	path  []int
}

func slowEnd(m api.Mem, level, frame, mid, deepest int, path []int) (end, api.Errno) {
	if len(m.Words) == 0 || mid < 0 || mid > 4095 {
		return end{}, api.ErrForm
	}
	if frame < 0 || frame >= len(m.Words)/8 {
		return end{}, api.ErrLimit
	}
	path = append(path, frame)
	d, _ := desc.Of(2, level, m.Words[place(level, frame, mid)])
	if d.Kind == api.DescTable && level < deepest {
		return slowEnd(m, level+1, d.Frame, mid, deepest, path)
	}
	return end{level, d, path}, api.OK
}

// told is all that a call may tell.
type told struct {
	words []uint64
	d     api.Desc
	level int
	left  []int
	e     api.Errno
}

func (a told) same(b told) bool {
	return slices.Equal(a.words, b.words) && a.d == b.d && a.level == b.level && slices.Equal(a.left, b.left) && a.e == b.e
}

// asked is all that a call may be given.
type asked struct {
	m     api.Mem
	root  int
	free  []int
	mid   int
	level int
	d     api.Desc
	note  int
}

func slowGet(a asked) told {
	x, e := slowEnd(a.m, 0, a.root, a.mid, 3, nil)
	return told{d: x.d, level: x.level, e: e}
}

func slowPut(a asked) told {
	if desc.Check(2, a.level, a.d) != api.OK {
		return told{e: api.ErrForm}
	}
	x, e := slowEnd(a.m, 0, a.root, a.mid, a.level, nil)
	if e == api.OK && x.level < a.level {
		e = api.ErrNone
	}
	if e != api.OK {
		return told{e: e}
	}
	g := ground{a.m}.copied()
	g.lay(x.level, x.path[x.level], a.mid, a.d)
	return told{words: g.Words}
}

// areFree holds each of free against all others, and against the way.
func areFree(m api.Mem, free []int, path []int) bool {
	for i, f := range free {
		if f < 0 || f >= len(m.Words)/8 || slices.Contains(path, f) || slices.Contains(free[:i], f) {
			return false
		}
	}
	return true
}

func slowMap(a asked) told {
	if a.d.Kind != api.DescLeaf || desc.Check(2, 3, a.d) != api.OK {
		return told{e: api.ErrForm}
	}
	x, e := slowEnd(a.m, 0, a.root, a.mid, 3, nil)
	switch {
	case e != api.OK:
		return told{e: e}
	case !areFree(a.m, a.free, x.path):
		return told{e: api.ErrLimit}
	case x.d.Kind == api.DescLeaf, x.level < 3 && x.d.Note != 0:
		return told{e: api.ErrThere}
	case x.level == 3:
		g := ground{a.m}.copied()
		g.lay(3, x.path[3], a.mid, a.d)
		return told{words: g.Words, left: a.free}
	case len(a.free) == 0:
		return told{e: api.ErrFull}
	}
	// One table more, and once more from the root on.
	g := ground{a.m}.copied()
	f := a.free[0]
	clear(g.Words[8*f : 8*f+8])
	g.lay(x.level, x.path[x.level], a.mid, tableAt(f))
	a.m, a.free = g.Mem, a.free[1:]
	return slowMap(a)
}

func slowUnmap(a asked) told {
	if a.note < 0 || a.note > 15 {
		return told{e: api.ErrForm}
	}
	x, e := slowEnd(a.m, 0, a.root, a.mid, 3, nil)
	if e == api.OK && (x.level < 3 || x.d.Kind != api.DescLeaf) {
		e = api.ErrNone
	}
	if e != api.OK {
		return told{e: e}
	}
	g := ground{a.m}.copied()
	g.lay(3, x.path[3], a.mid, note(a.note))
	return told{words: g.Words, d: x.d}
}

func slowSplit(a asked) told {
	x, e := slowEnd(a.m, 0, a.root, a.mid, 3, nil)
	switch {
	case e != api.OK:
		return told{e: e}
	case !areFree(a.m, a.free, x.path):
		return told{e: api.ErrLimit}
	case x.d.Kind != api.DescLeaf || x.level == 3:
		return told{e: api.ErrNone}
	case len(a.free) == 0:
		return told{e: api.ErrFull}
	}
	g := ground{a.m}.copied()
	for i := range 8 {
		d := x.d
		d.Frame = x.d.Frame + []int{0, 8, 1}[x.level]*i
		g.Words[8*a.free[0]+i] = wordOf(x.level+1, d)
	}
	g.lay(x.level, x.path[x.level], a.mid, tableAt(a.free[0]))
	return told{words: g.Words, left: a.free[1:]}
}

// calls are those that are held against the document's words written once more.
var calls = []struct {
	name string
	fast func(asked) told
	slow func(asked) told
}{
	{"Get", func(a asked) (x told) {
		x.d, x.level, x.e = pgt.Get(a.m, a.root, a.mid)
		return x
	}, slowGet},
	{"Put", func(a asked) told {
		m, e := pgt.Put(a.m, a.root, a.mid, a.level, a.d)
		return told{words: m.Words, e: e}
	}, slowPut},
	{"Map", func(a asked) told {
		m, left, e := pgt.Map(a.m, a.root, a.free, a.mid, a.d)
		return told{words: m.Words, left: left, e: e}
	}, slowMap},
	{"Unmap", func(a asked) told {
		m, d, e := pgt.Unmap(a.m, a.root, a.mid, a.note)
		return told{words: m.Words, d: d, e: e}
	}, slowUnmap},
	{"Split", func(a asked) told {
		m, left, e := pgt.Split(a.m, a.root, a.free, a.mid)
		return told{words: m.Words, left: left, e: e}
	}, slowSplit},
}

// checkLists holds Visit and All against walks of each page by itself, and tells the errors that they are to tell.
func checkLists(t *testing.T, m api.Mem, root int, l []int) (api.Errno, api.Errno) {
	t.Helper()
	var ds []api.Desc
	var all []api.Map
	bad, none := api.OK, api.OK
	for _, mid := range l {
		x, e := slowEnd(m, 0, root, mid, 3, nil)
		if e == api.ErrForm || bad == api.OK {
			bad = e
		}
		ds = append(ds, x.d)
	}
	for mid := range 4096 {
		x, e := slowEnd(m, 0, root, mid, 3, nil)
		if e != api.OK {
			none = e
		}
		if x.d.Kind == api.DescLeaf {
			all = append(all, api.Map{Mid: mid, Frame: x.d.Frame + mid%sizes[x.level]})
		}
	}
	if bad != api.OK {
		ds = nil
	}
	if none != api.OK {
		all = nil
	}
	wantVisit(t, m, root, l, ds, bad)
	wantAll(t, m, root, all, none)
	return bad, none
}

// P16.1 to P16.4: calls one behind the other, over tables that lead anywhere.
func TestWild(t *testing.T) {
	met := map[string]int{}
	for seed := range 400 {
		d := dice(seed)
		frames := 1 + seed%64
		g := wildOf(&d, frames)
		for range 60 {
			a := asked{m: g.Mem, root: d.upTo(frames), free: d.free(frames), mid: d.page(), level: d.upTo(4), note: d.upTo(17)}
			a.d = d.any(d.one(3, 3, a.level), frames)
			if !d.mostly(32) {
				a.root = frames
			}
			c := calls[d.upTo(len(calls))]
			got, want := c.fast(a), c.slow(a)
			if !got.same(want) {
				t.Fatalf("%s of %+v: %+v, not %+v", c.name, a, got, want)
			}
			met[fmt.Sprint(c.name, want.e)]++
			if len(want.words) > 0 {
				g = ground{api.Mem{Words: want.words}}
			}
		}
		l := []int{d.page(), d.page(), d.page(), d.page(), d.page()}
		bad, none := checkLists(t, g.Mem, d.upTo(frames), l[:seed%6])
		met[fmt.Sprint("Visit", bad)]++
		met[fmt.Sprint("All", none)]++
	}
	// Of each call all that it may tell: else the calls were too few.
	for name, l := range map[string][]api.Errno{
		"Get":   {api.OK, api.ErrForm, api.ErrLimit},
		"Put":   {api.OK, api.ErrForm, api.ErrLimit, api.ErrNone},
		"Map":   {api.OK, api.ErrForm, api.ErrLimit, api.ErrThere, api.ErrFull},
		"Unmap": {api.OK, api.ErrForm, api.ErrLimit, api.ErrNone},
		"Split": {api.OK, api.ErrForm, api.ErrLimit, api.ErrNone, api.ErrFull},
		"Visit": {api.OK, api.ErrForm, api.ErrLimit},
		"All":   {api.OK, api.ErrLimit},
	} {
		for _, e := range l {
			if met[fmt.Sprint(name, e)] < 5 {
				t.Errorf("%s: error %d was met too seldom: %v", name, e, met)
			}
		}
	}
}

// house is tables that only Map, Unmap and Split have changed, and what was mapped by them.
type house struct {
	ground
	free   []int
	mapped map[int]api.Desc // each page's own, with its frame
}

// check holds the tables against what was mapped: what calls tell, and where a walk leads.
func (h *house) check(t *testing.T) {
	t.Helper()
	var l []api.Map
	for _, mid := range slices.Sorted(maps.Keys(h.mapped)) {
		l = append(l, api.Map{Mid: mid, Frame: h.mapped[mid].Frame})
	}
	wantAll(t, h.Mem, 0, l, api.OK)
	for mid := range 4096 {
		want, is := h.mapped[mid]
		hit, f, _, _ := walk.Walk(h.Mem, 2, 0, mid)
		switch {
		case !is && f.Kind != api.FaultTrans,
			is && want.Frame >= 64 && f.Kind != api.FaultSize,
			is && want.Frame < 64 && (f != (api.Fault{}) || hit.Frame != want.Frame || hit.Attr != want.Attr):
			t.Fatalf("%#o: %+v, %+v, not %+v", mid, hit, f, want)
		}
	}
}

func (h *house) doMap(d *dice) {
	mid, leaf := d.page(), d.leaf(3)
	leaf.Frame = d.upTo(80)
	if x, left, e := pgt.Map(h.Mem, 0, h.free, mid, leaf); e == api.OK {
		h.Mem, h.free, h.mapped[mid] = x, left, leaf
	}
}

func (h *house) doUnmap(d *dice) {
	mid := d.page()
	if x, _, e := pgt.Unmap(h.Mem, 0, mid, d.upTo(16)); e == api.OK {
		h.Mem = x
		delete(h.mapped, mid)
	}
}

func (h *house) doBlock(d *dice) {
	mid, level := d.page(), 1+d.upTo(2)
	block := d.leaf(level)
	if was, at, e := pgt.Get(h.Mem, 0, mid); e != api.OK || at != level || was.Kind != api.DescNone {
		return
	}
	h.Mem, _ = pgt.Put(h.Mem, 0, mid, level, block)
	for i := range sizes[level] {
		page := block
		page.Frame += i
		h.mapped[mid/sizes[level]*sizes[level]+i] = page
	}
}

func (h *house) doSplit(d *dice) bool {
	x, left, e := pgt.Split(h.Mem, 0, h.free, d.page())
	if e == api.OK {
		h.Mem, h.free = x, left
	}
	return e == api.OK
}

// P16.5: what is mapped is translated so, until it is taken away; Split changes nothing of that.
func TestHouse(t *testing.T) {
	splits := 0
	for seed := range 30 {
		d := dice(seed)
		h := house{ground: groundOf(64), mapped: map[int]api.Desc{}}
		for f := 1; f < 64; f++ {
			h.free = append(h.free, f)
		}
		for range 40 {
			switch d.upTo(6) {
			case 0, 1, 2:
				h.doMap(&d)
			case 3:
				h.doUnmap(&d)
			case 4:
				h.doBlock(&d)
			case 5:
				if h.doSplit(&d) {
					splits++
				}
			}
			h.check(t)
		}
	}
	if splits < 20 {
		t.Errorf("%d blocks were split", splits)
	}
}

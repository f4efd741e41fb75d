package pgt_test

import (
	"fmt"
	"math"
	"slices"
	"testing"

	"bulwark/api"
	"bulwark/desc"
	"bulwark/pgt"
	"bulwark/walk"
)

// numbers that are no level, no page and no frame of any memory; some come back among them where bits are lost or a product wraps round.
var (
	badLevels = []int{math.MinInt, math.MinInt + 3, -1 << 32, -2, -1, 4, 5, 8, 64, 1 << 32, 1<<32 + 3, 1 << 62, math.MaxInt}
	badPages  = []int{math.MinInt, math.MinInt + 64, -1 << 32, -4096, -64, -8, -1, 4096, 4097, 4104, 4160, 8192, 1 << 24, 1 << 32, 1 << 62, math.MaxInt - 63, math.MaxInt}
	badFrames = []int{math.MinInt, math.MinInt + 1, -1 << 58, -1 << 32, -64, -1, 64, 65, 4095, 4096, 1 << 32, 1 << 58, 1<<58 + 1, 1 << 61, 1 << 62, math.MaxInt}
)

var sizes = []int{512, 64, 8, 1}

// ground is a memory in which a test lays tables of stage 2.
type ground struct{ api.Mem }

func groundOf(frames int) ground {
	return ground{api.Mem{Words: make([]uint64, frames*8)}}
}

func (g ground) copied() ground {
	return ground{api.Mem{Words: slices.Clone(g.Words)}}
}

// place is the word that a table of that level, at frame, has for mid.
func place(level, frame, mid int) int {
	return 8*frame + mid/sizes[level]%8
}

func wordOf(level int, d api.Desc) uint64 {
	w, e := desc.Word(2, level, d)
	if e != api.OK {
		panic(fmt.Sprint("no such descriptor: ", level, d))
	}
	return w
}

func (g ground) lay(level, frame, mid int, d api.Desc) {
	g.Words[place(level, frame, mid)] = wordOf(level, d)
}

// way lays tables at these frames, each with the next one for mid, and d in the last one.
func (g ground) way(mid int, d api.Desc, path ...int) {
	for level, frame := range path[1:] {
		g.lay(level, path[level], mid, tableAt(frame))
	}
	g.lay(len(path)-1, path[len(path)-1], mid, d)
}

func tableAt(frame int) api.Desc { return api.Desc{Kind: api.DescTable, Frame: frame} }

func note(n int) api.Desc { return api.Desc{Note: n} }

func leafAt(frame int) api.Desc {
	return api.Desc{Kind: api.DescLeaf, Frame: frame, Attr: api.Attr{R: true, X: true, AF: true, Soft: 5}}
}

// attrs are all that a leaf of stage 2 may have.
func attrs() (l []api.Attr) {
	for bits := range 256 {
		on := func(k int) bool { return bits>>k%2 == 1 }
		l = append(l, api.Attr{R: on(0), W: on(1), X: on(2), AF: on(3), Soft: bits >> 4})
	}
	return l
}

// badMems are memories that may not be: no words, no whole frames, too many.
func badMems() (l []api.Mem) {
	l = append(l, api.Mem{}, api.Mem{Words: []uint64{}})
	for _, n := range []int{1, 7, 9, 15, 17, 8*64 - 1, 8*64 + 1, 8 * 65, 8 * 128} {
		l = append(l, api.Mem{Words: make([]uint64, n)})
	}
	return l
}

func wantGet(t *testing.T, m api.Mem, root, mid int, d api.Desc, level int, e api.Errno) {
	t.Helper()
	if gd, gl, ge := pgt.Get(m, root, mid); gd != d || gl != level || ge != e {
		t.Errorf("Get, root %d, mid %#o: %+v, %d, %d, not %+v, %d, %d", root, mid, gd, gl, ge, d, level, e)
	}
}

// wantMem asks for the words of want, or for an error and nothing beside it.
func wantMem(t *testing.T, name string, x api.Mem, e api.Errno, want []uint64, bad api.Errno) {
	t.Helper()
	if e != bad || !slices.Equal(x.Words, want) {
		t.Errorf("%s: %d, not %d; %x, not %x", name, e, bad, x.Words, want)
	}
}

func wantPut(t *testing.T, m api.Mem, root, mid, level int, d api.Desc, want []uint64, bad api.Errno) {
	t.Helper()
	x, e := pgt.Put(m, root, mid, level, d)
	wantMem(t, fmt.Sprintf("Put, root %d, mid %#o, level %d, %+v", root, mid, level, d), x, e, want, bad)
}

func wantMap(t *testing.T, m api.Mem, root int, free []int, mid int, d api.Desc, want []uint64, left []int, bad api.Errno) {
	t.Helper()
	x, l, e := pgt.Map(m, root, free, mid, d)
	name := fmt.Sprintf("Map, root %d, free %d, mid %#o, %+v", root, free, mid, d)
	wantMem(t, name, x, e, want, bad)
	if !slices.Equal(l, left) {
		t.Errorf("%s: left %d, not %d", name, l, left)
	}
}

func wantUnmap(t *testing.T, m api.Mem, root, mid, n int, want []uint64, d api.Desc, bad api.Errno) {
	t.Helper()
	x, was, e := pgt.Unmap(m, root, mid, n)
	name := fmt.Sprintf("Unmap, root %d, mid %#o, note %d", root, mid, n)
	wantMem(t, name, x, e, want, bad)
	if was != d {
		t.Errorf("%s: %+v, not %+v", name, was, d)
	}
}

func wantSplit(t *testing.T, m api.Mem, root int, free []int, mid int, want []uint64, left []int, bad api.Errno) {
	t.Helper()
	x, l, e := pgt.Split(m, root, free, mid)
	name := fmt.Sprintf("Split, root %d, free %d, mid %#o", root, free, mid)
	wantMem(t, name, x, e, want, bad)
	if !slices.Equal(l, left) {
		t.Errorf("%s: left %d, not %d", name, l, left)
	}
}

func wantVisit(t *testing.T, m api.Mem, root int, l []int, want []api.Desc, bad api.Errno) {
	t.Helper()
	if got, e := pgt.Visit(m, root, l...); e != bad || !slices.Equal(got, want) {
		t.Errorf("Visit, root %d, %#o: %+v, %d, not %+v, %d", root, l, got, e, want, bad)
	}
}

func wantAll(t *testing.T, m api.Mem, root int, want []api.Map, bad api.Errno) {
	t.Helper()
	if got, e := pgt.All(m, root); e != bad || !slices.Equal(got, want) {
		t.Errorf("All, root %d: %v, %d, not %v, %d", root, got, e, want, bad)
	}
}

// wantNone says that every call tells that error of m, root and mid, and nothing beside it.
func wantNone(t *testing.T, m api.Mem, root, mid int, bad api.Errno) {
	t.Helper()
	wantGet(t, m, root, mid, api.Desc{}, 0, bad)
	wantPut(t, m, root, mid, 0, api.Desc{}, nil, bad)
	wantPut(t, m, root, mid, 3, leafAt(1), nil, bad)
	wantMap(t, m, root, nil, mid, leafAt(1), nil, nil, bad)
	wantMap(t, m, root, []int{9, 8, 7}, mid, leafAt(1), nil, nil, bad)
	wantUnmap(t, m, root, mid, 3, nil, api.Desc{}, bad)
	wantSplit(t, m, root, nil, mid, nil, nil, bad)
	wantSplit(t, m, root, []int{9, 8, 7}, mid, nil, nil, bad)
	wantVisit(t, m, root, []int{mid}, nil, bad)
	wantVisit(t, m, root, []int{0, mid, 0}, nil, bad)
}

// tree has a way of each length: pages, blocks, notes and nothing, at all levels. Frames 10 to 19 are no tables.
func tree() ground {
	g := groundOf(20)
	g.way(0o1234, leafAt(19), 2, 5, 7, 9)
	g.lay(3, 9, 0o1235, note(4))
	g.lay(2, 7, 0o1240, leafAt(56))
	g.lay(2, 7, 0o1250, note(3))
	g.lay(1, 5, 0o1300, leafAt(128))
	g.lay(1, 5, 0o1400, note(2))
	g.lay(0, 2, 0o3000, note(1))
	return g
}

// ends are what pages of tree end at.
var ends = []struct {
	mid   int
	level int
	d     api.Desc
}{
	{0o1234, 3, leafAt(19)}, {0o1235, 3, note(4)}, {0o1236, 3, note(0)},
	{0o1240, 2, leafAt(56)}, {0o1247, 2, leafAt(56)}, {0o1250, 2, note(3)}, {0o1257, 2, note(3)}, {0o1260, 2, note(0)},
	{0o1300, 1, leafAt(128)}, {0o1377, 1, leafAt(128)}, {0o1400, 1, note(2)}, {0o1477, 1, note(2)}, {0o1500, 1, note(0)},
	{0o3000, 0, note(1)}, {0o3777, 0, note(1)}, {0o4000, 0, note(0)}, {0, 0, note(0)}, {0o7777, 0, note(0)},
}

// P16.1: what a walk ends at, at each level; of a block the descriptor itself, wherever in it the page lies, and wherever its frame.
func TestGet(t *testing.T) {
	for _, c := range ends {
		wantGet(t, tree().Mem, 2, c.mid, c.d, c.level, api.OK)
	}
}

// P16.1: each descriptor that may be is told as it is, at each level; words that are none's are an empty one.
func TestGetAny(t *testing.T) {
	path := []int{2, 5, 7, 9}
	for level := range 4 {
		g := groundOf(12)
		for n := range 16 {
			g.way(0o1234, note(n), path[:level+1]...)
			wantGet(t, g.Mem, 2, 0o1234, note(n), level, api.OK)
		}
		for _, w := range []uint64{2, 0x1002, 1 << 63, math.MaxUint64, math.MaxUint64 - 1, 0x1007, 0x1003 | 1<<24} {
			g.Words[place(level, path[level], 0o1234)] = w
			wantGet(t, g.Mem, 2, 0o1234, note(0), level, api.OK)
		}
		for _, a := range attrs() {
			for _, frame := range []int{0, sizes[level], 4096 - sizes[level]} {
				if level > 0 {
					d := api.Desc{Kind: api.DescLeaf, Frame: frame, Attr: a}
					g.way(0o1234, d, path[:level+1]...)
					wantGet(t, g.Mem, 2, 0o1234, d, level, api.OK)
				}
			}
		}
	}
}

// P16.1: ErrLimit of a root, and of a table on the way, that is not in memory: from the frame behind the last one on.
func TestLimit(t *testing.T) {
	for _, frames := range []int{10, 63, 64} {
		for _, far := range append([]int{frames}, badFrames...) {
			if far < 0 || far >= frames {
				wantNone(t, groundOf(frames).Mem, far, 0o1234, api.ErrLimit)
				wantAll(t, groundOf(frames).Mem, far, nil, api.ErrLimit)
				wantVisit(t, groundOf(frames).Mem, far, nil, nil, api.ErrLimit)
			}
			if far < frames || far > 4095 {
				continue
			}
			for level := range 3 {
				g := groundOf(frames)
				g.way(0o1234, tableAt(far), []int{2, 5, 7}[:level+1]...)
				wantGet(t, g.Mem, 2, 0o1234, api.Desc{}, 0, api.ErrLimit)
				wantMap(t, g.Mem, 2, []int{9, 8}, 0o1234, leafAt(1), nil, nil, api.ErrLimit)
				wantUnmap(t, g.Mem, 2, 0o1234, 0, nil, api.Desc{}, api.ErrLimit)
				wantSplit(t, g.Mem, 2, []int{9, 8}, 0o1234, nil, nil, api.ErrLimit)
				wantVisit(t, g.Mem, 2, []int{0o4000, 0o1234}, nil, api.ErrLimit)
				wantAll(t, g.Mem, 2, nil, api.ErrLimit)
				wantGet(t, g.Mem, 2, 0o4000, api.Desc{}, 0, api.OK)
				wantMap(t, g.Mem, 2, nil, 0o4000, leafAt(1), nil, nil, api.ErrFull)
			}
		}
	}
}

// P16.1 to P16.4: ErrForm of a memory that may not be, and of a page that is none, ahead of all.
func TestForm(t *testing.T) {
	for _, m := range badMems() {
		for _, root := range []int{0, 2, -1, 64} {
			wantNone(t, m, root, 0, api.ErrForm)
			wantNone(t, m, root, -1, api.ErrForm)
			wantAll(t, m, root, nil, api.ErrForm)
			wantVisit(t, m, root, nil, nil, api.ErrForm)
			wantMap(t, m, root, []int{-1}, 0, leafAt(1), nil, nil, api.ErrForm)
			wantSplit(t, m, root, []int{-1}, 0, nil, nil, api.ErrForm)
		}
	}
	for _, mid := range badPages {
		for _, root := range []int{2, -1, 20, 64} {
			wantNone(t, tree().Mem, root, mid, api.ErrForm)
			wantMap(t, tree().Mem, root, []int{-1}, mid, leafAt(1), nil, nil, api.ErrForm)
			wantSplit(t, tree().Mem, root, []int{-1}, mid, nil, nil, api.ErrForm)
		}
	}
}

// P16.1: Put lays d down whatever stood there, at the level that is asked for, and changes nothing else.
func TestPut(t *testing.T) {
	path := []int{2, 5, 7, 9}
	for _, c := range ends {
		for level := range c.level + 1 {
			l := []api.Desc{note(0), note(15), note(7)}
			if level > 0 {
				l = append(l, leafAt(0), leafAt(4096-sizes[level]), api.Desc{Kind: api.DescLeaf})
			}
			if level < 3 {
				l = append(l, tableAt(0), tableAt(4095), tableAt(2))
			}
			for _, d := range l {
				g := tree()
				want := g.copied()
				want.lay(level, path[level], c.mid, d)
				wantPut(t, g.Mem, 2, c.mid, level, d, want.Words, api.OK)
			}
		}
	}
}

// P16.1: ErrNone, where the walk ends above that level.
func TestPutNone(t *testing.T) {
	for _, c := range ends {
		for level := c.level + 1; level < 4; level++ {
			wantPut(t, tree().Mem, 2, c.mid, level, note(0), nil, api.ErrNone)
			wantPut(t, tree().Mem, 2, c.mid, level, leafAt(0), nil, api.ErrNone)
		}
	}
}

// P16.1: tables on the way are those down to the level of Put: one beneath may be beyond memory.
func TestPutLimit(t *testing.T) {
	path := []int{2, 5, 7}
	for last := range 3 {
		g := groundOf(10)
		g.way(0o1234, tableAt(10), path[:last+1]...)
		for level := range 4 {
			if level > last {
				wantPut(t, g.Mem, 2, 0o1234, level, note(6), nil, api.ErrLimit)
				continue
			}
			want := g.copied()
			want.lay(level, path[level], 0o1234, note(6))
			wantPut(t, g.Mem, 2, 0o1234, level, note(6), want.Words, api.OK)
		}
	}
}

// badDescs are none that may be, at stage 2 and at that level.
func badDescs(level int) []api.Desc {
	leaf := func(frame int, a api.Attr) api.Desc { return api.Desc{Kind: api.DescLeaf, Frame: frame, Attr: a} }
	l := []api.Desc{
		note(-1), note(16), note(math.MaxInt), {Frame: 1}, {Attr: api.Attr{R: true}}, {Kind: -1}, {Kind: 3}, {Kind: math.MaxInt},
		tableAt(-1), tableAt(4096), tableAt(math.MinInt), {Kind: api.DescTable, Note: 1}, {Kind: api.DescTable, Attr: api.Attr{AF: true}},
		leaf(-sizes[level], api.Attr{}), leaf(4096, api.Attr{}), leaf(1<<62, api.Attr{}), leaf(0, api.Attr{NG: true}), leaf(0, api.Attr{Soft: 16}), leaf(0, api.Attr{Soft: -1}), {Kind: api.DescLeaf, Note: 1},
	}
	switch level {
	case 0:
		return append(l, leafAt(0), leafAt(512))
	case 3:
		return append(l, tableAt(0), tableAt(9))
	}
	return append(l, leafAt(1), leafAt(sizes[level]/2), leafAt(4095))
}

// P16.1: ErrForm of a level that is none, and of a descriptor that may not be there, ahead of all.
func TestPutForm(t *testing.T) {
	for _, root := range []int{2, -1, 20} {
		for _, mid := range []int{0o1234, 0o4000} {
			for _, level := range badLevels {
				wantPut(t, tree().Mem, root, mid, level, note(0), nil, api.ErrForm)
				wantPut(t, tree().Mem, root, mid, level, leafAt(0), nil, api.ErrForm)
			}
			for level := range 4 {
				for _, d := range badDescs(level) {
					wantPut(t, tree().Mem, root, mid, level, d, nil, api.ErrForm)
				}
			}
		}
	}
}

// P16.2, example 1: an empty root: three of free are tables, the first one that of level 1.
func TestMapExample(t *testing.T) {
	g := groundOf(12)
	want := g.copied()
	want.way(0o7654, leafAt(3), 2, 9, 4, 6)
	wantMap(t, g.Mem, 2, []int{9, 4, 6, 5, 1}, 0o7654, leafAt(3), want.Words, []int{5, 1}, api.OK)
	wantMap(t, g.Mem, 2, []int{9, 4, 6}, 0o7654, leafAt(3), want.Words, nil, api.OK)
}

// P16.2: as many of free as tables are missing are noughts and stand there; the others stay as they are, and are left in their order.
func TestMapFree(t *testing.T) {
	free := []int{18, 10, 17, 11, 0, 1}
	for _, c := range []struct {
		mid  int
		path []int
	}{{0o1236, []int{2, 5, 7, 9}}, {0o1235, []int{2, 5, 7, 9}}, {0o1263, []int{2, 5, 7, 18}}, {0o1512, []int{2, 5, 18, 10}}, {0o4567, []int{2, 18, 10, 17}}, {0, []int{2, 18, 10, 17}}, {4095, []int{2, 18, 10, 17}}} {
		for spare := range 4 {
			g := tree()
			for _, f := range []int{0, 1, 3, 10, 11, 16, 17, 18} {
				for i := range 8 {
					g.Words[8*f+i] = wordOf(2, tableAt(f+i))
				}
			}
			want, n := g.copied(), 0
			for _, f := range c.path {
				if slices.Contains(free, f) {
					clear(want.Words[8*f : 8*f+8])
					n++
				}
			}
			d := leafAt(4095 - spare)
			want.way(c.mid, d, c.path...)
			wantMap(t, g.Mem, 2, free[:n+spare], c.mid, d, want.Words, free[n:n+spare], api.OK)
		}
	}
}

// P16.2: every leaf that may be at level 3 is mapped as it is.
func TestMapAny(t *testing.T) {
	for i, a := range attrs() {
		g := groundOf(10)
		d := api.Desc{Kind: api.DescLeaf, Frame: i * 4095 / 255, Attr: a}
		want := g.copied()
		want.way(0o1234, d, 2, 5, 7, 9)
		wantMap(t, g.Mem, 2, []int{5, 7, 9}, 0o1234, d, want.Words, nil, api.OK)
	}
}

// P16.2: ErrThere of a leaf, and of a note above level 3, though free has frames enough.
func TestMapThere(t *testing.T) {
	for _, c := range ends {
		if c.d.Kind == api.DescLeaf || c.d.Note > 0 && c.level < 3 {
			wantMap(t, tree().Mem, 2, []int{10, 11, 12, 13}, c.mid, leafAt(1), nil, nil, api.ErrThere)
			wantMap(t, tree().Mem, 2, nil, c.mid, leafAt(1), nil, nil, api.ErrThere)
		}
	}
	for n := 1; n < 16; n++ {
		for level := range 4 {
			g := groundOf(12)
			g.way(0o1234, note(n), []int{2, 5, 7, 9}[:level+1]...)
			if level < 3 {
				wantMap(t, g.Mem, 2, []int{10, 11, 8}, 0o1234, leafAt(1), nil, nil, api.ErrThere)
				continue
			}
			want := g.copied()
			want.lay(3, 9, 0o1234, leafAt(1))
			wantMap(t, g.Mem, 2, nil, 0o1234, leafAt(1), want.Words, nil, api.OK)
		}
	}
}

// P16.2: ErrFull, if free has too few, and nothing is done.
func TestMapFull(t *testing.T) {
	for _, c := range []struct{ mid, lacks int }{{0o1263, 1}, {0o1512, 2}, {0o4567, 3}} {
		g := tree()
		for n := range c.lacks {
			wantMap(t, g.Mem, 2, []int{10, 11, 12}[:n], c.mid, leafAt(1), nil, nil, api.ErrFull)
		}
		if !slices.Equal(g.Words, tree().Words) {
			t.Errorf("%#o: something is done", c.mid)
		}
	}
}

// badFree are frames that are not free: not there, twice, the root, one of the tables on the way.
func badFree(path []int) (l [][]int) {
	for _, f := range append([]int{20, 21}, badFrames...) {
		l = append(l, []int{f}, []int{10, 11, 12, f}, []int{10, f, 11})
	}
	for _, f := range path {
		l = append(l, []int{f}, []int{10, 11, 12, 13, f}, []int{f, 10, 11})
	}
	return append(l, []int{10, 10}, []int{10, 11, 12, 13, 11}, []int{19, 18, 17, 16, 15, 14, 13, 12, 11, 10, 19})
}

// P16.2, P16.3: ErrLimit of frames that are not free, behind ErrForm and ahead of all else; a table that is not on the way may be free.
func TestFree(t *testing.T) {
	path := []int{2, 5, 7, 9}
	for _, c := range ends {
		for _, l := range badFree(path[:c.level+1]) {
			wantMap(t, tree().Mem, 2, l, c.mid, leafAt(1), nil, nil, api.ErrLimit)
			wantSplit(t, tree().Mem, 2, l, c.mid, nil, nil, api.ErrLimit)
			wantMap(t, tree().Mem, 2, l, c.mid, tableAt(1), nil, nil, api.ErrForm)
		}
	}
	for _, l := range [][]int{make([]int, 1<<22), slices.Repeat([]int{10, 11, 12}, 1<<20)} {
		_, _, e := pgt.Map(tree().Mem, 2, l, 0o4567, leafAt(1))
		_, _, f := pgt.Split(tree().Mem, 2, l, 0o1240)
		if e != api.ErrLimit || f != api.ErrLimit {
			t.Errorf("%d frames: %d, %d", len(l), e, f)
		}
	}
	g := tree()
	want := g.copied()
	for _, f := range []int{9, 5, 7} {
		clear(want.Words[8*f : 8*f+8])
	}
	want.way(0o4567, leafAt(1), 2, 9, 5, 7)
	wantMap(t, g.Mem, 2, []int{9, 5, 7}, 0o4567, leafAt(1), want.Words, nil, api.OK)
}

// P16.2: ErrForm of what is no leaf that may be at level 3 of stage 2, ahead of all.
func TestMapForm(t *testing.T) {
	for _, root := range []int{2, -1, 20} {
		for _, d := range append(badDescs(3), note(0), note(3), api.Desc{}) {
			for _, mid := range []int{0o1234, 0o1235, 0o1236, 0o1250, 0o4000} {
				wantMap(t, tree().Mem, root, []int{10, 11, 12}, mid, d, nil, nil, api.ErrForm)
				wantMap(t, tree().Mem, root, nil, mid, d, nil, nil, api.ErrForm)
			}
		}
	}
}

// P16.3: Unmap leaves a note where the leaf was, and tells the leaf.
func TestUnmap(t *testing.T) {
	for n := range 16 {
		g := tree()
		want := g.copied()
		want.lay(3, 9, 0o1234, note(n))
		wantUnmap(t, g.Mem, 2, 0o1234, n, want.Words, leafAt(19), api.OK)
	}
	for i, a := range attrs() {
		g := groundOf(10)
		d := api.Desc{Kind: api.DescLeaf, Frame: 4095 - i, Attr: a}
		want := g.copied()
		g.way(0o1234, d, 2, 5, 7, 9)
		want.way(0o1234, note(1), 2, 5, 7, 9)
		wantUnmap(t, g.Mem, 2, 0o1234, 1, want.Words, d, api.OK)
	}
}

// P16.3: ErrNone of all that is no leaf of level 3; ErrForm of a note that is none, ahead of all.
func TestUnmapWrong(t *testing.T) {
	for _, c := range ends {
		if c.d.Kind != api.DescLeaf || c.level < 3 {
			wantUnmap(t, tree().Mem, 2, c.mid, 0, nil, api.Desc{}, api.ErrNone)
			wantUnmap(t, tree().Mem, 2, c.mid, 15, nil, api.Desc{}, api.ErrNone)
		}
		for _, n := range []int{math.MinInt, -16, -1, 16, 17, 1 << 32, math.MaxInt} {
			for _, root := range []int{2, -1, 20} {
				wantUnmap(t, tree().Mem, root, c.mid, n, nil, api.Desc{}, api.ErrForm)
			}
		}
	}
}

// P16.3: a block becomes a table of eight leaves of the next level; the first of free, whatever it had, is that table.
func TestSplit(t *testing.T) {
	for _, a := range attrs() {
		for level, path := range [][]int{1: {2, 5}, 2: {2, 5, 7}} {
			for _, first := range []int{0, 128, 4096 - 64} {
				if level == 0 {
					continue
				}
				g := groundOf(20)
				for i := range 8 {
					g.Words[8*13+i], g.Words[8*12+i] = 0x1003, math.MaxUint64
				}
				want := g.copied()
				g.way(0o1234, api.Desc{Kind: api.DescLeaf, Frame: first, Attr: a}, path...)
				want.way(0o1234, tableAt(13), path...)
				for i := range 8 {
					want.lay(level+1, 13, i*sizes[level+1], api.Desc{Kind: api.DescLeaf, Frame: first + i*sizes[level+1], Attr: a})
				}
				wantSplit(t, g.Mem, 2, []int{13}, 0o1234, want.Words, nil, api.OK)
				wantSplit(t, g.Mem, 2, []int{13, 12, 7 + level}, 0o1234, want.Words, []int{12, 7 + level}, api.OK)
			}
		}
	}
}

// P16.3: ErrNone of all that is no block, whether free has a frame or not; then ErrFull.
func TestSplitWrong(t *testing.T) {
	for _, c := range ends {
		bad := api.ErrNone
		if c.d.Kind == api.DescLeaf && c.level < 3 {
			bad = api.ErrFull
		} else {
			wantSplit(t, tree().Mem, 2, []int{10}, c.mid, nil, nil, bad)
		}
		wantSplit(t, tree().Mem, 2, nil, c.mid, nil, nil, bad)
	}
}

// P16.4: Visit tells of each page what Get tells, in the order in which they are asked for, as often as they are.
func TestVisit(t *testing.T) {
	var l []int
	var want []api.Desc
	for _, c := range ends {
		wantVisit(t, tree().Mem, 2, []int{c.mid}, []api.Desc{c.d}, api.OK)
		l, want = append(l, c.mid), append(want, c.d)
	}
	wantVisit(t, tree().Mem, 2, l, want, api.OK)
	slices.Reverse(l)
	slices.Reverse(want)
	wantVisit(t, tree().Mem, 2, append(l, l...), append(want, want...), api.OK)
	wantVisit(t, tree().Mem, 2, nil, nil, api.OK)
}

// P16.4: ErrForm of any page ahead of all; else the first error, wherever it stands.
func TestVisitWrong(t *testing.T) {
	g := tree()
	g.lay(0, 2, 0, tableAt(20))
	g.lay(1, 5, 0o1100, tableAt(64))
	for _, far := range []int{0, 0o777, 0o1100} {
		wantVisit(t, g.Mem, 2, []int{0o1234, 0o1240, far}, nil, api.ErrLimit)
		wantVisit(t, g.Mem, 2, []int{far, 0o1234}, nil, api.ErrLimit)
		for _, bad := range badPages {
			wantVisit(t, g.Mem, 2, []int{far, 0o1234, bad}, nil, api.ErrForm)
			wantVisit(t, g.Mem, 2, []int{bad, far}, nil, api.ErrForm)
			wantVisit(t, g.Mem, -1, []int{0o1234, bad}, nil, api.ErrForm)
		}
	}
}

// P16.4: All tells each page of leaves of all levels, in order; frames beyond memory, too; notes are not mapped.
func TestAll(t *testing.T) {
	var want []api.Map
	add := func(mid, frame, n int) {
		for i := range n {
			want = append(want, api.Map{Mid: mid + i, Frame: frame + i})
		}
	}
	add(0o1234, 19, 1)
	add(0o1240, 56, 8)
	add(0o1300, 128, 64)
	wantAll(t, tree().Mem, 2, want, api.OK)
	wantAll(t, groundOf(1).Mem, 0, nil, api.OK)
	g := tree()
	g.way(0, leafAt(4095), 2, 10, 11, 12)
	g.way(4095, leafAt(4095), 2, 13, 14, 15)
	want = slices.Insert(want, 0, api.Map{Mid: 0, Frame: 4095})
	add(4095, 4095, 1)
	wantAll(t, g.Mem, 2, want, api.OK)
}

// P16.4: ErrLimit, wherever a table is not in memory, also of the last pages; nothing is told of those ahead.
func TestAllLimit(t *testing.T) {
	for _, mid := range []int{0, 0o1270, 0o1500, 0o4567, 4095} {
		_, last, _ := pgt.Get(tree().Mem, 2, mid)
		for level := range last + 1 {
			x, e := pgt.Put(tree().Mem, 2, mid, level, tableAt(20))
			if e != api.OK {
				t.Errorf("%#o, level %d: %d", mid, level, e)
			}
			wantAll(t, x, 2, nil, api.ErrLimit)
		}
	}
}

// P16.4: tables may lie in rings: then all pages are mapped, and it ends.
func TestAllInRings(t *testing.T) {
	g := groundOf(3)
	for i := range 8 {
		g.Words[8+i] = 0x1003 + uint64(i%2)<<12 // tables at 1 and 2; at level 3 leaves of these
		g.Words[16+i] = 0x2003 - uint64(i%2)<<12
	}
	l, e := pgt.All(g.Mem, 1)
	if e != api.OK || len(l) != 4096 {
		t.Fatalf("%d pages, %d", len(l), e)
	}
	for mid, x := range l {
		h, _, _, _ := walk.Walk(g.Mem, 2, 1, mid)
		if x != (api.Map{Mid: mid, Frame: h.Frame}) {
			t.Errorf("%#o: %v, not %+v", mid, x, h)
		}
	}
}

// R1, R2: what is handed in stays as it is, its spare room too, and is not kept; what is told is new.
func TestLeavesAll(t *testing.T) {
	g := tree()
	room := append(slices.Clone(g.Words), make([]uint64, 64)...)
	old := slices.Clone(room)
	m := api.Mem{Words: room[:len(g.Words)]}
	free := []int{10, 11, 12, 13, 14, 15}
	l := []int{0o1234, 0o1300}
	for range 2 {
		a, _ := pgt.Put(m, 2, 0o1234, 3, note(1))
		b, left, _ := pgt.Map(m, 2, free[:5], 0o4567, leafAt(1))
		c, none, _ := pgt.Map(m, 2, free[:5], 0o1236, leafAt(1))
		d, _, _ := pgt.Unmap(m, 2, 0o1234, 1)
		f, other, _ := pgt.Split(m, 2, free[:5], 0o1240)
		ds, _ := pgt.Visit(m, 2, l...)
		all, _ := pgt.All(m, 2)
		if !slices.Equal(left, []int{13, 14}) || !slices.Equal(none, []int{10, 11, 12, 13, 14}) || !slices.Equal(other, []int{11, 12, 13, 14}) {
			t.Errorf("left: %d, %d, %d", left, none, other)
		}
		if !slices.Equal(ds, []api.Desc{leafAt(19), leafAt(128)}) || len(all) != 73 || all[0] != (api.Map{Mid: 0o1234, Frame: 19}) {
			t.Errorf("%v, %v", ds, all)
		}
		for _, x := range []api.Mem{a, b, c, d, f} {
			spoil(x.Words, 99)
		}
		spoil(left, 99)
		spoil(none, 99)
		spoil(other, 99)
		spoil(ds, api.Desc{Note: 9})
		spoil(all, api.Map{Mid: 9})
		if !slices.Equal(room, old) || !slices.Equal(free, []int{10, 11, 12, 13, 14, 15}) || !slices.Equal(l, []int{0o1234, 0o1300}) {
			t.Fatalf("what was handed in has changed: %x, %d, %d", room, free, l)
		}
	}
}

// spoil writes all over l, and over what lies behind it.
func spoil[T any](l []T, v T) {
	full := append(l, v, v, v)
	for i := range full {
		full[i] = v
	}
	for i := range l[:cap(l)] {
		l[:cap(l)][i] = v
	}
}

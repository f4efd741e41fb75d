package walk_test

import (
	"fmt"
	"math"
	"slices"
	"testing"

	"bulwark/api"
	"bulwark/desc"
	"bulwark/walk"
)

// numbers that are no stage, no level, no page and no frame's; some come back among them where bits are lost or a product wraps round.
var (
	badStages = []int{math.MinInt, math.MinInt + 1, -1 << 32, -2, -1, 0, 3, 4, 1<<32 + 1, 1<<32 + 2, math.MaxInt}
	badLevels = []int{math.MinInt, math.MinInt + 3, -1 << 32, -2, -1, 4, 5, 8, 64, 1 << 32, 1<<32 + 3, 1 << 62, math.MaxInt}
	badPages  = []int{math.MinInt, math.MinInt + 64, -1 << 32, -4096, -64, -8, -1, 4096, 4097, 4104, 4160, 8192, 1 << 24, 1 << 32, 1 << 62, math.MaxInt - 63, math.MaxInt}
)

var stages = []int{1, 2}

// ground is a memory in which a test lays tables.
type ground struct {
	api.Mem
	stage int
}

func groundOf(stage, frames int) ground {
	return ground{Mem: api.Mem{Words: make([]uint64, frames*8)}, stage: stage}
}

// digit is a page's place in a table of that level: its digits in eights, the highest one level 0's.
func digit(level, page int) int {
	return []int{page / 512, page / 64 % 8, page / 8 % 8, page % 8}[level]
}

// lay lays a descriptor where a table of that level has the page's.
func (g ground) lay(level, frame, page int, d api.Desc) {
	w, e := desc.Word(g.stage, level, d)
	if e != api.OK {
		panic(fmt.Sprint("no such descriptor: ", g.stage, level, d))
	}
	g.Words[frame*8+digit(level, page)] = w
}

func tableAt(frame int) api.Desc { return api.Desc{Kind: api.DescTable, Frame: frame} }

func leafAt(frame int) api.Desc {
	return api.Desc{Kind: api.DescLeaf, Frame: frame, Attr: api.Attr{R: true, X: true, AF: true}}
}

// answer is all that Walk tells.
type answer struct {
	h    api.Hit
	f    api.Fault
	read []int
	e    api.Errno
}

func walked(m api.Mem, stage, frame, page int) (a answer) {
	a.h, a.f, a.read, a.e = walk.Walk(m, stage, frame, page)
	return a
}

func (a answer) same(b answer) bool {
	return a.h == b.h && a.f == b.f && slices.Equal(a.read, b.read) && a.e == b.e
}

// reached is the answer of a walk that ends at a leaf.
func reached(level, frame int, a api.Attr, read ...int) answer {
	return answer{h: api.Hit{Frame: frame, Attr: a, Level: level}, read: read}
}

// failed is the answer of a walk that ends nowhere.
func failed(kind, stage, level, page int, read ...int) answer {
	return answer{f: api.Fault{Kind: kind, Stage: stage, Level: level, Page: page}, read: read}
}

// check holds Walk against what is wanted.
func check(t *testing.T, name string, m api.Mem, stage, frame, page int, want answer) {
	t.Helper()
	if got := walked(m, stage, frame, page); !got.same(want) {
		t.Errorf("%s: stage %d, frame %d, page %#o: %+v, not %+v", name, stage, frame, page, got, want)
	}
}

// slowWalk is the document's walk, written once more: each level calls the next.
func slowWalk(m api.Mem, stage, level, frame, page int, read []int) answer {
	frames := len(m.Words) / 8
	if frame >= frames {
		return failed(api.FaultSize, stage, level, page, read...)
	}
	read = append(read, frame)
	d, _ := desc.Of(stage, level, m.Words[8*frame+digit(level, page)])
	if d.Kind == api.DescTable {
		return slowWalk(m, stage, level+1, d.Frame, page, read)
	}
	if d.Kind == api.DescNone {
		return failed(api.FaultTrans, stage, level, page, read...)
	}
	for l := level + 1; l < 4; l++ { // the digits behind the leaf's level lie within it
		d.Frame += digit(l, page) * []int{512, 64, 8, 1}[l]
	}
	if d.Frame >= frames {
		return failed(api.FaultSize, stage, level, page, read...)
	}
	return reached(level, d.Frame, d.Attr, read...)
}

// badMems are memories that may not be: no words, no whole frames, too many.
func badMems() (l []api.Mem) {
	l = append(l, api.Mem{}, api.Mem{Words: []uint64{}})
	for _, n := range []int{1, 7, 9, 15, 17, 8*64 - 1, 8*64 + 1, 8 * 65, 8 * 128} {
		l = append(l, api.Mem{Words: make([]uint64, n)})
	}
	return l
}

// dice are numbers with nothing regular in them, the same ones in each run.
type dice uint64

func (d *dice) upTo(n int) int {
	*d = *d*6364136223846793005 + 1442695040888963407
	return int(uint64(*d>>33) % uint64(n))
}

// anyWord is a word that leads on, mostly, in a memory of so many frames.
func (d *dice) anyWord(stage, frames int) uint64 {
	level := 1 + d.upTo(3)
	x := api.Desc{Kind: api.DescLeaf, Attr: api.Attr{R: true, W: d.upTo(2) == 0, X: d.upTo(2) == 0, AF: d.upTo(2) == 0}}
	x.Frame = []int{0, 64, 8, 1}[level] * d.upTo(1+frames/[]int{1, 64, 8, 1}[level])
	if stage == 1 {
		x.NG = d.upTo(2) == 0
	} else {
		x.R, x.Soft = d.upTo(2) == 0, d.upTo(16)
	}
	switch d.upTo(16) {
	case 0:
		return uint64(d.upTo(16)) << 4 // nothing, with a note at stage 2
	case 1:
		return uint64(d.upTo(1<<31))<<33 ^ uint64(d.upTo(1<<31))
	case 2, 3, 4:
	case 5:
		level, x = d.upTo(3), tableAt(d.upTo(4096))
	default:
		level, x = d.upTo(3), tableAt(d.upTo(frames+1))
	}
	w, _ := desc.Word(stage, level, x)
	return w
}

// wild is a memory of words of all kinds.
func wild(seed, stage, frames int) api.Mem {
	d := dice(seed)
	m := api.Mem{Words: make([]uint64, frames*8)}
	for i := range m.Words {
		m.Words[i] = d.anyWord(stage, frames)
	}
	return m
}

// P5.1: of each table, as one of each stage and level, the descriptor at each page's place.
func TestTable(t *testing.T) {
	for _, stage := range stages {
		for seed, frames := range []int{1, 5, 64} {
			m := wild(seed, stage, frames)
			for level := range 4 {
				for frame := range frames {
					for page := frame % 7; page < 4096; page += 7 {
						want, _ := desc.Of(stage, level, m.Words[8*frame+digit(level, page)])
						if d, e := walk.Table(m, stage, level, frame, page); d != want || e != api.OK {
							t.Fatalf("stage %d, level %d, frame %d, page %#o: %+v, %d, not %+v", stage, level, frame, page, d, e, want)
						}
					}
				}
			}
		}
	}
}

// P5.1: one descriptor at each place, written out: the page's digit of that level is the place, and no other one.
func TestTablePlaces(t *testing.T) {
	for _, stage := range stages {
		g := groundOf(stage, 3)
		for i := range 8 {
			g.Words[16+i] = uint64(0x1003 + i<<12) // a table of frame i + 1; a leaf's word at level 3
		}
		for level, page := range []int{0o6111, 0o1611, 0o1161, 0o1116} {
			want := tableAt(7)
			if level == 3 {
				want, _ = desc.Of(stage, 3, 0x7003)
			}
			if d, e := walk.Table(g.Mem, stage, level, 2, page); d != want || e != api.OK {
				t.Errorf("stage %d, level %d: %+v, %d", stage, level, d, e)
			}
			if d, e := walk.Table(g.Mem, stage, level, 1, page); d != (api.Desc{}) || e != api.OK {
				t.Errorf("stage %d, level %d, an empty table: %+v, %d", stage, level, d, e)
			}
		}
	}
	g := groundOf(2, 1)
	g.lay(3, 0, 7, api.Desc{Note: 9})
	if d, e := walk.Table(g.Mem, 2, 3, 0, 0o7777); d != (api.Desc{Note: 9}) || e != api.OK {
		t.Errorf("a note: %+v, %d", d, e)
	}
}

// noTable says that Table tells that error, and nothing beside it.
func noTable(t *testing.T, m api.Mem, stage, level, frame, page int, want api.Errno) {
	t.Helper()
	if d, e := walk.Table(m, stage, level, frame, page); d != (api.Desc{}) || e != want {
		t.Errorf("%d words, stage %d, level %d, frame %d, page %d: %+v, %d, not %d", len(m.Words), stage, level, frame, page, d, e, want)
	}
}

// P5.1: a frame that is not there, from the one behind the last on; among them some whose bytes would wrap round into memory.
func TestTableLimit(t *testing.T) {
	for _, frames := range []int{1, 5, 64} {
		m := wild(3, 2, frames)
		for _, frame := range []int{math.MinInt, math.MinInt + 1, -1 << 58, -1 << 32, -64, -1, frames, frames + 1, 64, 65, 4095, 4096, 1 << 32, 1 << 58, 1<<58 + 1, 1 << 61, 1 << 62, math.MaxInt} {
			for level := range 4 {
				for _, page := range []int{0, 0o1234, 4095} {
					noTable(t, m, 1, level, frame, page, api.ErrLimit)
					noTable(t, m, 2, level, frame, page, api.ErrLimit)
				}
			}
		}
	}
}

// P5.1, R4: ErrForm of a memory, a stage, a level and a page that may not be, also where there is no such frame.
func TestTableForm(t *testing.T) {
	m := wild(4, 2, 5)
	for _, frame := range []int{math.MinInt, -1, 0, 4, 5, 4096} {
		for _, bad := range badMems() {
			noTable(t, bad, 2, 3, frame, 0, api.ErrForm)
			noTable(t, bad, 3, 4, frame, -1, api.ErrForm)
		}
		for _, stage := range badStages {
			noTable(t, m, stage, 0, frame, 0, api.ErrForm)
		}
		for _, level := range badLevels {
			noTable(t, m, 1, level, frame, 0, api.ErrForm)
			noTable(t, m, 2, level, frame, 0, api.ErrForm)
		}
		for _, page := range badPages {
			for level := range 4 {
				noTable(t, m, 1, level, frame, page, api.ErrForm)
				noTable(t, m, 2, level, frame, page, api.ErrForm)
			}
		}
	}
}

// P5.2, example 1: an empty table: FaultTrans at level 0.
func TestWalkExample(t *testing.T) {
	for _, stage := range stages {
		check(t, "an empty table", groundOf(stage, 1).Mem, stage, 0, 0, failed(api.FaultTrans, stage, 0, 0, 0))
	}
}

// P5.2: from level 0 on, each table leads to the next one, the last one to a page; beside that path nothing is mapped.
func TestWalkFourTables(t *testing.T) {
	for _, stage := range stages {
		g := groundOf(stage, 20)
		path := []int{2, 5, 7, 9}
		for level := range 3 {
			g.lay(level, path[level], 0o1234, tableAt(path[level+1]))
		}
		g.lay(3, 9, 0o1234, leafAt(19))
		check(t, "a page", g.Mem, stage, 2, 0o1234, reached(3, 19, leafAt(0).Attr, path...))
		for level, page := range []int{0o6234, 0o1634, 0o1264, 0o1236} {
			check(t, "beside it", g.Mem, stage, 2, page, failed(api.FaultTrans, stage, level, page, path[:level+1]...))
		}
	}
}

// P5.2: a leaf ends a walk at its level; of the page just the bits within it count.
func TestWalkLeaves(t *testing.T) {
	for _, stage := range stages {
		g := groundOf(stage, 64)
		g.lay(0, 1, 0o1000, tableAt(2))
		g.lay(1, 2, 0o1200, leafAt(0))
		g.lay(1, 2, 0o1300, tableAt(3))
		g.lay(2, 3, 0o1340, leafAt(56))
		g.lay(2, 3, 0o1350, tableAt(4))
		a := leafAt(0).Attr
		for i := range 64 {
			check(t, "a block of 64", g.Mem, stage, 1, 0o1200+i, reached(1, i, a, 1, 2))
		}
		for i := range 8 {
			check(t, "a block of 8", g.Mem, stage, 1, 0o1340+i, reached(2, 56+i, a, 1, 2, 3))
			g.lay(3, 4, 0o1350+i, leafAt(60-i))
		}
		for i := range 8 {
			check(t, "a page", g.Mem, stage, 1, 0o1350+i, reached(3, 60-i, a, 1, 2, 3, 4))
		}
	}
}

// P5.2: FaultSize of a table, of the first one and of later ones, from the frame behind the last on.
func TestWalkTableBeyond(t *testing.T) {
	for _, stage := range stages {
		for _, frames := range []int{4, 63, 64} {
			for _, far := range []int{frames, frames + 1, 64, 65, 128, 256, 4032, 4095} {
				path := []int{0, 2, 1, 3}
				g := groundOf(stage, frames)
				check(t, "no first table", g.Mem, stage, far, 0o7654, failed(api.FaultSize, stage, 0, 0o7654))
				for level := range 3 {
					g.lay(level, path[level], 0o7654, tableAt(far))
					check(t, "no later table", g.Mem, stage, 0, 0o7654, failed(api.FaultSize, stage, level+1, 0o7654, path[:level+1]...))
					g.lay(level, path[level], 0o7654, tableAt(path[level+1]))
				}
			}
		}
	}
}

// P5.2: FaultSize of a leaf's page that lies beyond memory, though the leaf begins in it; at the leaf's level.
func TestWalkLeafBeyond(t *testing.T) {
	for _, stage := range stages {
		for frames := 4; frames <= 64; frames++ {
			g := groundOf(stage, frames)
			path := []int{0, 1, 2, 3}
			for level := range 3 {
				g.lay(level, level, 0o3210, tableAt(level+1))
			}
			for level := 3; level > 0; level-- {
				size := []int{512, 64, 8, 1}[level]
				for _, first := range []int{0, frames / size * size, (frames - 1) / size * size, (frames/size + 1) * size, 4096 - size} {
					g.lay(level, level, 0o3210, leafAt(first))
					for _, i := range []int{0, 1, frames - first - 1, frames - first, size - 1} {
						if i < 0 || i >= size {
							continue
						}
						page := 0o3210/size*size + i
						want := reached(level, first+i, leafAt(0).Attr, path[:level+1]...)
						if first+i >= frames {
							want = failed(api.FaultSize, stage, level, page, path[:level+1]...)
						}
						check(t, fmt.Sprint("a leaf at ", first, " of ", frames), g.Mem, stage, 0, page, want)
					}
				}
			}
		}
	}
}

// P5.2: what is no descriptor leads nowhere: FaultTrans at its level; likewise a note, and a leaf at level 0.
func TestWalkNone(t *testing.T) {
	for _, stage := range stages {
		for level := range 4 {
			for _, w := range []uint64{0, 0x50, 0xf0, 2, 0x1002, 1 << 63, math.MaxUint64, math.MaxUint64 - 1, 0x1007, 0x2003 | 1<<24, 0x401 | 1<<3, 0x1403 | 1<<53} {
				g := groundOf(stage, 5)
				path := []int{4, 3, 2, 1}
				for l := range level {
					g.lay(l, path[l], 0o5273, tableAt(path[l+1]))
				}
				g.Words[8*path[level]+digit(level, 0o5273)] = w
				check(t, fmt.Sprintf("%#x", w), g.Mem, stage, 4, 0o5273, failed(api.FaultTrans, stage, level, 0o5273, path[:level+1]...))
			}
		}
		g := groundOf(stage, 5)
		g.Words[8*4], _ = desc.Word(stage, 1, leafAt(0))
		check(t, "a leaf at level 0", g.Mem, stage, 4, 7, failed(api.FaultTrans, stage, 0, 7, 4))
		g.Words[8*4] = 0x1003
		g.Words[8*1] = 0x1401 // a leaf of frame 1, which none of level 1 and none of level 2 is
		check(t, "a leaf that is not aligned", g.Mem, stage, 4, 7, failed(api.FaultTrans, stage, 1, 7, 4, 1))
	}
}

// P5.2: attributes are those that the leaf has, at each level; those that forbid are told like others, and hinder no walk.
func TestWalkAttr(t *testing.T) {
	for _, stage := range stages {
		for level := 1; level <= 3; level++ {
			for bits := range 1 << 8 {
				on := func(k int) bool { return bits>>k%2 == 1 }
				a := api.Attr{R: true, W: on(1), X: on(2), AF: on(3), NG: on(4)}
				if stage == 2 {
					a = api.Attr{R: on(0), W: on(1), X: on(2), AF: on(3), Soft: bits >> 4}
				}
				g := groundOf(stage, 4)
				for l := range level {
					g.lay(l, l, 0, tableAt(l+1))
				}
				g.lay(level, level, 0, api.Desc{Kind: api.DescLeaf, Attr: a})
				check(t, "attributes", g.Mem, stage, 0, 0, reached(level, 0, a, []int{0, 1, 2, 3}[:level+1]...))
			}
		}
	}
}

// P5.2, P5.3: a table may lead to itself, or back: each time it is read it is told; four times at most.
func TestWalkInCircles(t *testing.T) {
	for _, stage := range stages {
		g := groundOf(stage, 3)
		for i := range 8 {
			g.Words[8+i] = 0x1003  // to itself; at level 3 a leaf of frame 1
			g.Words[16+i] = 0x2003 // likewise
		}
		last, _ := desc.Of(stage, 3, 0x1003)
		check(t, "to itself", g.Mem, stage, 1, 0o2222, reached(3, 1, last.Attr, 1, 1, 1, 1))
		g.Words[8+2], g.Words[16+2] = 0x2003, 0x1003
		check(t, "there and back", g.Mem, stage, 1, 0o2222, reached(3, 1, last.Attr, 1, 2, 1, 2))
		check(t, "half way", g.Mem, stage, 1, 0o2522, reached(3, 2, last.Attr, 1, 2, 2, 1))
		g.Words[8+3] = 0x3003
		check(t, "out of it", g.Mem, stage, 1, 0o4430, failed(api.FaultSize, stage, 3, 0o4430, 1, 1, 1))
	}
}

// P5.2, P5.3: words of all kinds, in memories of all sizes, from all frames on.
func TestWalkMany(t *testing.T) {
	ends := map[string]int{}
	for _, stage := range stages {
		for frames := 1; frames <= 64; frames += 3 {
			m := wild(frames, stage, frames)
			for page := frames % 2; page < 4096; page += 2 {
				for _, first := range []int{page % frames, page * 7 % (frames + 1)} {
					got, want := walked(m, stage, first, page), slowWalk(m, stage, 0, first, page, nil)
					if !got.same(want) {
						t.Fatalf("%d frames, stage %d, frame %d, page %#o: %+v, not %+v", frames, stage, first, page, got, want)
					}
					if len(got.read) > 4 {
						t.Fatalf("%d tables are read: %v", len(got.read), got.read)
					}
					ends[fmt.Sprint(stage, got.f.Kind, got.h.Level+got.f.Level)]++
				}
			}
		}
	}
	// Hits of levels 1 to 3, and both faults of each level, at both stages: else the words were too few.
	if len(ends) != 2*(3+4+4) {
		t.Errorf("ends that were met: %v", ends)
	}
}

// unlawful says that Walk tells ErrForm, and nothing beside it.
func unlawful(t *testing.T, m api.Mem, stage, frame, page int) {
	t.Helper()
	check(t, fmt.Sprint(len(m.Words), " words"), m, stage, frame, page, answer{e: api.ErrForm})
}

// P5.2, R4: ErrForm of a memory, a stage, a frame and a page that may not be, alone and together.
func TestWalkForm(t *testing.T) {
	badFrames := append([]int{math.MinInt + 4096, -4095, 5000, 1 << 58, 1<<58 + 1}, badPages...)
	for _, m := range []api.Mem{groundOf(1, 1).Mem, wild(5, 1, 64), wild(6, 2, 5)} {
		for _, stage := range badStages {
			for _, frame := range []int{0, 63, 64, 4095, 4096, -1} {
				unlawful(t, m, stage, frame, 0)
				unlawful(t, m, stage, frame, -1)
			}
		}
		for _, stage := range stages {
			for _, frame := range badFrames {
				unlawful(t, m, stage, frame, 0)
				unlawful(t, m, stage, frame, 4095)
				unlawful(t, m, stage, frame, 4096)
			}
			for _, page := range badPages {
				for _, frame := range []int{0, 63, 64, 4095} {
					unlawful(t, m, stage, frame, page)
				}
			}
		}
	}
	for _, m := range badMems() {
		for _, frame := range []int{-1, 0, 1, 4095, 4096} {
			unlawful(t, m, 1, frame, 0)
			unlawful(t, m, 2, frame, 4095)
			unlawful(t, m, 3, frame, 4096)
		}
	}
}

// P5.2: a frame that no memory has is still one that a walk may begin at: each from the memory's end to MaxPage.
func TestWalkFromBeyond(t *testing.T) {
	for _, frames := range []int{1, 5, 64} {
		m := wild(7, 1, frames)
		for first := frames; first < 4096; first++ {
			check(t, "from beyond", m, 1, first, first, failed(api.FaultSize, 1, 0, first))
			check(t, "from beyond", m, 2, first, 4095-first, failed(api.FaultSize, 2, 0, 4095-first))
		}
	}
}

// R1, R2: memory stays as it is, its spare room too; what is told is new, and the same call tells the same.
func TestWalkLeavesAll(t *testing.T) {
	for _, stage := range stages {
		m := wild(8, stage, 20)
		m.Words = append(make([]uint64, 0, 200), m.Words...)
		old := slices.Clone(m.Words)
		for page := range 4096 {
			one, two := walked(m, stage, page%20, page), walked(m, stage, page%20, page)
			if !one.same(two) {
				t.Fatalf("page %#o: %+v, then %+v", page, one, two)
			}
			walk.Table(m, stage, page%4, page%20, page)
			kept := slices.Clone(two.read)
			full := append(one.read, 77, 77, 77, 77)
			for i := range full {
				full[i] = 99
			}
			if !slices.Equal(two.read, kept) || !walked(m, stage, page%20, page).same(answer{two.h, two.f, kept, two.e}) {
				t.Fatalf("page %#o: two answers share their frames", page)
			}
		}
		if !slices.Equal(m.Words, old) || slices.Max(m.Words[:200][160:]) != 0 {
			t.Errorf("stage %d: the memory has changed", stage)
		}
	}
}

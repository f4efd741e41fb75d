package desc_test

import (
	"math"
	"strings"
	"testing"

	"bulwark/api"
	"bulwark/desc"
)

// numbers that are no stage and no level; some come back among them where bits are lost or a product wraps round.
var (
	badStages = []int{math.MinInt, math.MinInt + 1, -1 << 32, -2, -1, 0, 3, 4, 1<<32 + 1, 1<<32 + 2, math.MaxInt}
	badLevels = []int{math.MinInt, math.MinInt + 3, -1 << 32, -2, -1, 4, 5, 8, 64, 1 << 32, 1<<32 + 3, 1 << 62, math.MaxInt}
	badKinds  = []int{math.MinInt, -2, -1, 3, 4, 1 << 32, 1<<32 + 1, 1<<32 + 2, math.MaxInt}
	badPages  = []int{math.MinInt, math.MinInt + 64, -1 << 32, -4096, -64, -8, -1, 4096, 4097, 4104, 4160, 8192, 1 << 24, 1 << 32, 1 << 62, math.MaxInt - 63, math.MaxInt}
	badSmall  = []int{math.MinInt, -1 << 32, -16, -1, 16, 17, 31, 32, 1 << 32, 1 << 62, math.MaxInt}
)

// plan is the word of a kind, bit 0 first: 0 and 1 stand for themselves, a letter for what lies there.
// f: Frame, n: Note, s: Soft, each by rising bits; r, w, a, g: R, W, AF, NG; v, x: not W, not X.
// Where the kind may not be, there is no plan.
func plan(stage, level, kind int) string {
	none := strings.Repeat("0", 64)
	switch {
	case kind == api.DescNone && stage == 1:
		return none
	case kind == api.DescNone:
		return "0000" + "nnnn" + none[8:]
	case kind == api.DescTable && level < 3:
		return "11" + none[2:12] + "ffffffffffff" + none[24:]
	case kind == api.DescLeaf && level > 0:
		last := []string{"", "10", "10", "11"}[level]
		frame := []string{"", "000000ffffff", "000fffffffff", "ffffffffffff"}[level]
		if stage == 1 {
			return last + "00000" + "v" + "00" + "a" + "g" + frame + none[24:54] + "x" + none[55:]
		}
		return last + "0000" + "r" + "w" + "00" + "a" + "0" + frame + none[24:54] + "x" + "ssss" + none[59:]
	}
	return ""
}

func yes(b bool) uint64 {
	if b {
		return 1
	}
	return 0
}

// slowWord fills in the plan of a descriptor that may be.
func slowWord(stage, level int, d api.Desc) (w uint64) {
	p := plan(stage, level, d.Kind)
	for k := range 64 {
		b := uint64(0)
		switch p[k] {
		case '1':
			b = 1
		case 'f':
			b = uint64(d.Frame>>(k-12)) % 2
		case 'n':
			b = uint64(d.Note>>(k-4)) % 2
		case 's':
			b = uint64(d.Soft>>(k-55)) % 2
		case 'r':
			b = yes(d.R)
		case 'w':
			b = yes(d.W)
		case 'v':
			b = yes(!d.W)
		case 'x':
			b = yes(!d.X)
		case 'a':
			b = yes(d.AF)
		case 'g':
			b = yes(d.NG)
		}
		w += b << k
	}
	return w
}

// slowOf holds a word against the plan of each kind.
func slowOf(stage, level int, w uint64) api.Desc {
	for kind := range 3 {
		if d, ok := matched(plan(stage, level, kind), w); ok {
			d.Kind = kind
			return d
		}
	}
	return api.Desc{}
}

func matched(p string, w uint64) (d api.Desc, ok bool) {
	for k := range len(p) {
		b := int(w >> k % 2)
		switch p[k] {
		case '0', '1':
			if b != int(p[k]-'0') {
				return api.Desc{}, false
			}
		case 'f':
			d.Frame += b << (k - 12)
		case 'n':
			d.Note += b << (k - 4)
		case 's':
			d.Soft += b << (k - 55)
		case 'r':
			d.R = b == 1
		case 'w':
			d.W = b == 1
		case 'v':
			d.R, d.W = true, b == 0
		case 'x':
			d.X = b == 0
		case 'a':
			d.AF = b == 1
		case 'g':
			d.NG = b == 1
		}
	}
	return d, p != ""
}

// spots calls f with each stage and level.
func spots(f func(stage, level int)) {
	for stage := 1; stage <= 2; stage++ {
		for level := range 4 {
			f(stage, level)
		}
	}
}

// leaves calls f with each leaf of such a frame that may be there.
func leaves(stage, frame int, f func(d api.Desc)) {
	softs := 1
	if stage == 2 {
		softs = 16
	}
	for soft := range softs {
		for k := range 16 {
			a := api.Attr{W: k&1 != 0, X: k&2 != 0, AF: k&4 != 0, Soft: soft}
			if stage == 1 {
				a.R, a.NG = true, k&8 != 0
			} else {
				a.R = k&8 != 0
			}
			f(api.Desc{Kind: api.DescLeaf, Frame: frame, Attr: a})
		}
	}
}

// lawful calls f with each descriptor that may be there, of every step-th frame and the last one.
func lawful(stage, level, step int, f func(d api.Desc)) {
	f(api.Desc{})
	for note := 1; stage == 2 && note < 16; note++ {
		f(api.Desc{Note: note})
	}
	covers := []int{512, 64, 8, 1}[level]
	for frame := range 4096 {
		if level < 3 && (frame%step == 0 || frame == 4095) {
			f(api.Desc{Kind: api.DescTable, Frame: frame})
		}
		if level > 0 && frame%covers == 0 && (frame/covers%step == 0 || frame+covers == 4096) {
			leaves(stage, frame, f)
		}
	}
}

// refused says that Check and Word tell ErrForm, and nothing beside it.
func refused(t *testing.T, stage, level int, d api.Desc) {
	t.Helper()
	w, e := desc.Word(stage, level, d)
	if c := desc.Check(stage, level, d); c != api.ErrForm || e != api.ErrForm || w != 0 {
		t.Errorf("stage %d, level %d, %+v: %d, %#x, %d", stage, level, d, c, w, e)
	}
}

// P3.1, P3.2, example 1: a table of frame 5.
func TestExample(t *testing.T) {
	d := api.Desc{Kind: api.DescTable, Frame: 5}
	for stage := 1; stage <= 2; stage++ {
		for level := range 3 {
			w, e := desc.Word(stage, level, d)
			back, f := desc.Of(stage, level, 0x5003)
			if w != 0x5003 || e != api.OK || back != d || f != api.OK {
				t.Errorf("stage %d, level %d: %#x, %d, %+v, %d", stage, level, w, e, back, f)
			}
		}
	}
}

// P3.1: words written out, each bit of the document once by itself.
func TestWordByHand(t *testing.T) {
	leaf := func(frame int, a api.Attr) api.Desc { return api.Desc{Kind: api.DescLeaf, Frame: frame, Attr: a} }
	for _, c := range []struct {
		stage, level int
		d            api.Desc
		want         uint64
	}{
		{2, 0, api.Desc{Note: 1}, 1 << 4},
		{2, 3, api.Desc{Note: 15}, 0xf0},
		{1, 3, leaf(0, api.Attr{R: true, W: true, X: true}), 3},
		{1, 2, leaf(0, api.Attr{R: true, W: true, X: true}), 1},
		{1, 1, leaf(0, api.Attr{R: true, W: true, X: true}), 1},
		{1, 3, leaf(0, api.Attr{R: true, X: true}), 1<<7 | 3},
		{1, 3, leaf(0, api.Attr{R: true, W: true, X: true, NG: true}), 1<<11 | 3},
		{1, 3, leaf(0, api.Attr{R: true, W: true, X: true, AF: true}), 1<<10 | 3},
		{1, 3, leaf(0, api.Attr{R: true, W: true}), 1<<54 | 3},
		{2, 3, leaf(0, api.Attr{X: true}), 3},
		{2, 1, leaf(0, api.Attr{X: true}), 1},
		{2, 3, leaf(0, api.Attr{X: true, R: true}), 1<<6 | 3},
		{2, 3, leaf(0, api.Attr{X: true, W: true}), 1<<7 | 3},
		{2, 3, leaf(0, api.Attr{X: true, AF: true}), 1<<10 | 3},
		{2, 3, leaf(0, api.Attr{}), 1<<54 | 3},
		{2, 3, leaf(0, api.Attr{X: true, Soft: 1}), 1<<55 | 3},
		{2, 3, leaf(0, api.Attr{X: true, Soft: 15}), 15<<55 | 3},
		{2, 3, leaf(1, api.Attr{X: true}), 1<<12 | 3},
		{2, 3, leaf(4095, api.Attr{X: true}), 0xfff003},
		{2, 2, leaf(8, api.Attr{X: true}), 0x8001},
		{2, 2, leaf(4088, api.Attr{X: true}), 0xff8001},
		{2, 1, leaf(64, api.Attr{X: true}), 0x40001},
		{2, 1, leaf(4032, api.Attr{X: true}), 0xfc0001},
	} {
		if w, e := desc.Word(c.stage, c.level, c.d); w != c.want || e != api.OK {
			t.Errorf("stage %d, level %d, %+v: %#x, %d", c.stage, c.level, c.d, w, e)
		}
	}
}

// P3.1, P3.2, P3.4: each descriptor that may be has its word, and is told of it.
func TestAllLawful(t *testing.T) {
	spots(func(stage, level int) {
		lawful(stage, level, 1, func(d api.Desc) {
			w, e := desc.Word(stage, level, d)
			if c := desc.Check(stage, level, d); c != api.OK || e != api.OK || w != slowWord(stage, level, d) {
				t.Fatalf("stage %d, level %d, %+v: %d, %#x, %d", stage, level, d, c, w, e)
			}
			if back, f := desc.Of(stage, level, w); back != d || f != api.OK {
				t.Fatalf("stage %d, level %d, %#x: %+v, %d, not %+v", stage, level, w, back, f, d)
			}
		})
	})
}

// P3.1: a kind that may not be there: a table at level 3, a leaf at level 0, numbers that are no kind.
func TestKinds(t *testing.T) {
	for stage := 1; stage <= 2; stage++ {
		for _, frame := range []int{0, 5, 64, 512, 4095} {
			refused(t, stage, 3, api.Desc{Kind: api.DescTable, Frame: frame})
			leaves(stage, frame, func(d api.Desc) { refused(t, stage, 0, d) })
		}
	}
	spots(func(stage, level int) {
		for _, kind := range badKinds {
			refused(t, stage, level, api.Desc{Kind: kind})
			refused(t, stage, level, api.Desc{Kind: kind, Attr: api.Attr{R: true}})
		}
	})
}

// P3.1: frames beyond MaxPage, below 0, or that a leaf of the level can't begin at.
func TestFrames(t *testing.T) {
	spots(func(stage, level int) {
		for _, frame := range badPages {
			refused(t, stage, level, api.Desc{Kind: api.DescTable, Frame: frame})
			leaves(stage, frame, func(d api.Desc) { refused(t, stage, level, d) })
		}
		covers := []int{4096, 64, 8, 1}[level]
		for frame := range 4096 {
			if frame%covers != 0 {
				refused(t, stage, level, api.Desc{Kind: api.DescLeaf, Frame: frame, Attr: api.Attr{R: true, W: true, AF: true}})
			}
		}
	})
}

// P3.1: a leaf of stage 1 is readable and has no Soft; one of stage 2 has no NG and a Soft below 16.
func TestAttrs(t *testing.T) {
	for level := 1; level <= 3; level++ {
		leaves(1, 64, func(d api.Desc) {
			bad := d
			bad.R = false
			refused(t, 1, level, bad)
			for _, soft := range append([]int{1, 2, 8, 15}, badSmall...) {
				bad = d
				bad.Soft = soft
				refused(t, 1, level, bad)
			}
		})
		leaves(2, 64, func(d api.Desc) {
			bad := d
			bad.NG = true
			refused(t, 2, level, bad)
			for _, soft := range badSmall {
				bad = d
				bad.Soft = soft
				refused(t, 2, level, bad)
			}
		})
	}
}

// P3.1: notes are stage 2's, below 16, and of nothing that is mapped.
func TestNotes(t *testing.T) {
	spots(func(stage, level int) {
		for _, note := range badSmall {
			refused(t, stage, level, api.Desc{Note: note})
		}
		for note := 1; note < 16; note++ {
			if stage == 1 {
				refused(t, stage, level, api.Desc{Note: note})
			}
			refused(t, stage, level, api.Desc{Kind: api.DescTable, Frame: 64, Note: note})
			refused(t, stage, level, api.Desc{Kind: api.DescLeaf, Frame: 64, Attr: api.Attr{R: true}, Note: note})
		}
	})
}

// P3.1: what a kind does not have is 0, one field at a time.
func TestNotHad(t *testing.T) {
	attrs := []api.Attr{{R: true}, {W: true}, {X: true}, {AF: true}, {NG: true}, {Soft: 1}, {Soft: 15}, {Soft: -1}, {Soft: 16}}
	spots(func(stage, level int) {
		for _, a := range attrs {
			refused(t, stage, level, api.Desc{Kind: api.DescNone, Attr: a})
			refused(t, stage, level, api.Desc{Kind: api.DescTable, Frame: 64, Attr: a})
		}
		for _, frame := range append([]int{1, 8, 64, 4095}, badPages...) {
			refused(t, stage, level, api.Desc{Kind: api.DescNone, Frame: frame})
			refused(t, stage, level, api.Desc{Kind: api.DescNone, Frame: frame, Note: 5})
		}
	})
}

// P3.1, P3.2, R4: no stage, no level, or neither: ErrForm, and the zero value beside it.
func TestSpots(t *testing.T) {
	ds := []api.Desc{{}, {Note: 5}, {Kind: api.DescTable, Frame: 5}, {Kind: api.DescLeaf, Frame: 64, Attr: api.Attr{R: true}}}
	bad := func(stage, level int) {
		for _, d := range ds {
			refused(t, stage, level, d)
		}
		for _, w := range []uint64{0, 0x50, 0x5003, 0x40401, 0x7403, 0x74c3, ^uint64(0)} {
			if d, e := desc.Of(stage, level, w); d != (api.Desc{}) || e != api.ErrForm {
				t.Errorf("Of(%d, %d, %#x): %+v, %d", stage, level, w, d, e)
			}
		}
	}
	for _, stage := range badStages {
		for level := range 4 {
			bad(stage, level)
		}
		for _, level := range badLevels {
			bad(stage, level)
			bad(1, level)
			bad(2, level)
		}
	}
}

// P3.1: two errors at once, or more, are one ErrForm.
func TestTwoErrors(t *testing.T) {
	for _, stage := range append([]int{1, 2}, badStages...) {
		for _, level := range append([]int{0, 3}, badLevels...) {
			for _, n := range badSmall {
				refused(t, stage, level, api.Desc{Kind: n, Note: n})
				refused(t, stage, level, api.Desc{Kind: api.DescNone, Note: n, Attr: api.Attr{Soft: n}})
				refused(t, stage, level, api.Desc{Kind: api.DescTable, Frame: -1, Note: n})
				refused(t, stage, level, api.Desc{Kind: api.DescLeaf, Frame: 4096, Attr: api.Attr{R: true, Soft: n, NG: true}})
			}
		}
	}
}

// P3.2: words near to those that may be: one bit or two are others.
func TestOfNear(t *testing.T) {
	spots(func(stage, level int) {
		lawful(stage, level, 4095, func(d api.Desc) {
			w := slowWord(stage, level, d)
			for i := range 64 {
				checkOf(t, stage, level, w^1<<i)
				for k := range i {
					if d.Soft%5 != 0 {
						break // pairs of bits are many: some of the Softs will do
					}
					checkOf(t, stage, level, w^1<<i^1<<k)
				}
			}
		})
	})
}

// checkOf holds Of against the plans, and what it tells against the word (P3.4).
func checkOf(t *testing.T, stage, level int, w uint64) {
	t.Helper()
	d, e := desc.Of(stage, level, w)
	if d != slowOf(stage, level, w) || e != api.OK {
		t.Fatalf("Of(%d, %d, %#x): %+v, %d, not %+v", stage, level, w, d, e, slowOf(stage, level, w))
	}
	if back, f := desc.Word(stage, level, d); f != api.OK || back != w && d != (api.Desc{}) {
		t.Fatalf("Of(%d, %d, %#x): %+v, whose word is %#x, %d", stage, level, w, d, back, f)
	}
}

// P3.2, P3.4: all words of the lowest bits, alone and below what a leaf has higher up.
func TestOfLow(t *testing.T) {
	high := []uint64{0, 5 << 12, 8 << 12, 64 << 12, 0xfff << 12, 1 << 24, 1 << 53, 1 << 54, 15 << 55, 1 << 59, 1 << 63, math.MaxUint64 - 0xfff}
	spots(func(stage, level int) {
		for _, h := range high {
			for w := range uint64(1 << 12) {
				checkOf(t, stage, level, h|w)
			}
		}
	})
}

// P3.2: words that are none's are told as nothing, written out.
func TestOfNone(t *testing.T) {
	for _, c := range []struct {
		name         string
		stage, level int
		w            uint64
	}{
		{"a note at stage 1", 1, 0, 0x50},
		{"a note and bit 1", 2, 0, 0x52},
		{"a note and bit 8", 2, 3, 0x150},
		{"a note and bit 63", 2, 3, 1<<63 | 0x50},
		{"a table with bit 2", 1, 0, 0x5007},
		{"a table with a note", 2, 0, 0x5053},
		{"a table that has AF", 2, 1, 0x5403},
		{"a table that has no X", 1, 1, 1<<54 | 0x5003},
		{"a table of frame 4096", 1, 1, 0x1000003},
		{"a leaf at level 0", 1, 0, 0x200401},
		{"a leaf of level 3 without bit 1", 1, 3, 0x7401},
		{"a leaf of level 2 at frame 7", 1, 2, 0x7401},
		{"a leaf of level 1 at frame 8", 2, 1, 0x84c1},
		{"a leaf of stage 1 with bit 6", 1, 3, 0x7443},
		{"a leaf of stage 1 with Soft", 1, 3, 1<<55 | 0x7403},
		{"a leaf of stage 2 with NG", 2, 3, 0x7cc3},
		{"a leaf of stage 2 with bit 59", 2, 3, 1<<59 | 0x74c3},
		{"a leaf with bit 53", 2, 3, 1<<53 | 0x74c3},
		{"all bits", 2, 3, ^uint64(0)},
		{"all bits but one", 1, 2, ^uint64(1)},
	} {
		if d, e := desc.Of(c.stage, c.level, c.w); d != (api.Desc{}) || e != api.OK {
			t.Errorf("%s: %+v, %d", c.name, d, e)
		}
	}
}

// P3.3: 512, 64, 8, 1.
func TestCovers(t *testing.T) {
	for level, want := range []int{512, 64, 8, 1} {
		if n, e := desc.Covers(level); n != want || e != api.OK {
			t.Errorf("Covers(%d): %d, %d", level, n, e)
		}
	}
	for _, level := range badLevels {
		if n, e := desc.Covers(level); n != 0 || e != api.ErrForm {
			t.Errorf("Covers(%d): %d, %d", level, n, e)
		}
	}
}

// P3.3: the places of a page are its digits in eights, the highest one level 0's.
func TestIndex(t *testing.T) {
	for page := range 4096 {
		for level, want := range []int{page / 512, page / 64 % 8, page / 8 % 8, page % 8} {
			if i, e := desc.Index(level, page); i != want || e != api.OK {
				t.Errorf("Index(%d, %d): %d, %d", level, page, i, e)
			}
		}
	}
}

// P3.3, R4: no level, no page, or neither.
func TestIndexForm(t *testing.T) {
	bad := func(level, page int) {
		if i, e := desc.Index(level, page); i != 0 || e != api.ErrForm {
			t.Errorf("Index(%d, %d): %d, %d", level, page, i, e)
		}
	}
	for _, level := range badLevels {
		for _, page := range []int{0, 1, 0o6543, 4095} {
			bad(level, page)
		}
		for _, page := range badPages {
			bad(level, page)
		}
	}
	for level := range 4 {
		for _, page := range badPages {
			bad(level, page)
		}
	}
}

// P3.4: a page is the sum of its places, each times what a leaf of that level covers.
func TestIndexUndone(t *testing.T) {
	for page := range 4096 {
		sum := 0
		for level := range 4 {
			i, _ := desc.Index(level, page)
			n, _ := desc.Covers(level)
			sum += i * n
		}
		if sum != page {
			t.Errorf("%d: %d", page, sum)
		}
	}
}

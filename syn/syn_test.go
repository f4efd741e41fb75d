package syn_test

import (
	"math"
	"testing"

	"bulwark/api"
	"bulwark/syn"
)

// numbers that are none of a fault's; some come back among those that are where bits are lost or a shift drops them.
var (
	badKinds  = []int{math.MinInt, math.MinInt + 2, -1 << 32, -8, -7, -4, -2, -1, 5, 6, 7, 8, 9, 12, 16, 255, 256, 258, 1 << 16, 1 << 32, 1<<32 + 2, 1 << 62, math.MaxInt - 3, math.MaxInt}
	badStages = []int{math.MinInt, math.MinInt + 1, -1 << 32, -4, -3, -2, -1, 3, 4, 5, 6, 8, 255, 256, 257, 1 << 16, 1 << 32, 1<<32 + 1, 1 << 61, 1 << 62, math.MaxInt - 1, math.MaxInt}
	badLevels = []int{math.MinInt, math.MinInt + 3, -1 << 32, -4, -3, -2, -1, 4, 5, 6, 7, 8, 255, 256, 259, 1 << 16, 1 << 32, 1<<32 + 3, 1 << 59, 1 << 62, math.MaxInt - 3, math.MaxInt}
	badPages  = []int{math.MinInt, math.MinInt + 5, -1 << 52, -1 << 32, -4096, -4095, -2, -1, 4096, 4097, 8191, 8192, 1 << 16, 1 << 24, 1 << 32, 1<<32 + 5, 1 << 52, 1 << 56, 1<<56 + 5, 1 << 62, math.MaxInt - 4095, math.MaxInt}
)

// shape is a fault's word, bit 0 first: k stands for Kind, s for Stage, l for Level, w for Walk, p for Page, each by rising bits; behind them no fault has a bit.
const shape = "kkk" + "ss" + "ll" + "w" + "pppppppppppp"

// slowWord counts each number out into its bits, for a fault that may be.
func slowWord(f api.Fault) (w uint64) {
	rest := [128]int{'k': f.Kind, 's': f.Stage, 'l': f.Level, 'p': f.Page}
	if f.Walk {
		rest['w'] = 1
	}
	for k := range len(shape) {
		w += uint64(rest[shape[k]]%2) << k
		rest[shape[k]] /= 2
	}
	return w
}

// slowOf gathers each number from its bits, and asks for those that may not be.
func slowOf(w uint64) (api.Fault, api.Errno) {
	n := [128]int{}
	for k := len(shape) - 1; k >= 0; k-- {
		n[shape[k]] = n[shape[k]]*2 + int(w>>k%2)
	}
	if w >= 1<<len(shape) || n['k'] > 4 || n['s'] > 2 {
		return api.Fault{}, api.ErrBad
	}
	return api.Fault{Kind: n['k'], Stage: n['s'], Level: n['l'], Walk: n['w'] == 1, Page: n['p']}, api.OK
}

// places calls f with a fault of each kind, stage and level, with Walk and without, of that page.
func places(page int, f func(x api.Fault)) {
	for kind := range 5 {
		for stage := range 3 {
			for level := range 4 {
				f(api.Fault{Kind: kind, Stage: stage, Level: level, Page: page})
				f(api.Fault{Kind: kind, Stage: stage, Level: level, Page: page, Walk: true})
			}
		}
	}
}

// lawful calls f with each fault that may be.
func lawful(f func(x api.Fault)) {
	for page := range 4096 {
		places(page, f)
	}
}

// some pages, those at the edges among them.
var pages = []int{0, 1, 2, 7, 8, 63, 64, 77, 511, 512, 2047, 2048, 0xaaa, api.MaxPage - 1, api.MaxPage}

// refused says that Word tells ErrForm, and nothing beside it.
func refused(t *testing.T, f api.Fault) {
	t.Helper()
	if w, e := syn.Word(f); w != 0 || e != api.ErrForm {
		t.Errorf("Word(%+v): %#x, %d", f, w, e)
	}
}

// checkOf holds Of against the shape, and the word of what it tells against the word that it was of (P8.2).
func checkOf(t *testing.T, w uint64) {
	t.Helper()
	f, e := syn.Of(w)
	want, bad := slowOf(w)
	if f != want || e != bad {
		t.Fatalf("Of(%#x): %+v, %d, not %+v, %d", w, f, e, want, bad)
	}
	if e != api.OK {
		return
	}
	if back, bad := syn.Word(f); back != w || bad != api.OK {
		t.Fatalf("Of(%#x): %+v, whose word is %#x, %d", w, f, back, bad)
	}
}

// P8.1, P8.2: example 1, the zero fault, and words written out: each bit of the document by itself, and the edges.
func TestByHand(t *testing.T) {
	for _, c := range []struct {
		f    api.Fault
		want uint64
	}{
		{api.Fault{}, 0},
		{api.Fault{Kind: api.FaultSize}, 1},
		{api.Fault{Kind: api.FaultTrans}, 2},
		{api.Fault{Kind: api.FaultFlag}, 3},
		{api.Fault{Kind: api.FaultPerm}, 4},
		{api.Fault{Stage: 1}, 0x8},
		{api.Fault{Stage: 2}, 0x10},
		{api.Fault{Level: 1}, 0x20},
		{api.Fault{Level: 2}, 0x40},
		{api.Fault{Level: 3}, 0x60},
		{api.Fault{Walk: true}, 0x80},
		{api.Fault{Page: 1}, 0x100},
		{api.Fault{Page: 2048}, 0x80000},
		{api.Fault{Page: api.MaxPage}, 0xfff00},
		{api.Fault{Kind: api.FaultTrans, Stage: 1, Page: api.MaxPage}, 0xfff0a},
		{api.Fault{Kind: api.FaultFlag, Stage: 2, Level: 3, Page: 0xabc}, 0xabc73},
		{api.Fault{Kind: api.FaultSize, Stage: 2, Walk: true, Page: 5}, 0x591},
		{api.Fault{Kind: api.FaultPerm, Stage: 1, Level: 3}, 0x6c},
		{api.Fault{Stage: 2, Level: 3, Walk: true, Page: api.MaxPage}, 0xffff0},
		{api.Fault{Kind: api.FaultPerm, Stage: 2, Level: 3, Walk: true, Page: api.MaxPage}, 0xffff4},
	} {
		w, e := syn.Word(c.f)
		f, bad := syn.Of(c.want)
		if w != c.want || e != api.OK || f != c.f || bad != api.OK {
			t.Errorf("%+v, %#x: %#x, %d, %+v, %d", c.f, c.want, w, e, f, bad)
		}
	}
}

// P8.1, P8.2: each fault that may be has its word, and is told of it.
func TestAllLawful(t *testing.T) {
	lawful(func(f api.Fault) {
		w, e := syn.Word(f)
		if e != api.OK || w != slowWord(f) {
			t.Fatalf("%+v: %#x, %d, not %#x", f, w, e, slowWord(f))
		}
		if back, bad := syn.Of(w); back != f || bad != api.OK {
			t.Fatalf("%+v: %#x, of which %+v, %d", f, w, back, bad)
		}
	})
}

// P8.2: no two faults have one word.
func TestWordsDiffer(t *testing.T) {
	seen := map[uint64]bool{}
	lawful(func(f api.Fault) {
		w, _ := syn.Word(f)
		if seen[w] {
			t.Fatalf("%#x: %+v, and another one", w, f)
		}
		seen[w] = true
	})
	if len(seen) != 5*3*4*2*4096 {
		t.Errorf("%d words", len(seen))
	}
}

// P8.1, P8.2: each word of the bits that faults have: those of a kind or a stage that is none are ErrBad.
func TestOfAll(t *testing.T) {
	n := 0
	for w := range uint64(1 << len(shape)) {
		checkOf(t, w)
		if _, e := syn.Of(w); e == api.OK {
			n++
		}
	}
	if n != 5*3*4*2*4096 {
		t.Errorf("%d faults", n)
	}
}

// P8.1, R4: one number that may not be, beside all others that may, with Walk and without.
func TestOneBad(t *testing.T) {
	for _, page := range pages {
		places(page, func(f api.Fault) {
			for _, n := range badKinds {
				g := f
				g.Kind = n
				refused(t, g)
			}
			for _, n := range badStages {
				g := f
				g.Stage = n
				refused(t, g)
			}
			for _, n := range badLevels {
				g := f
				g.Level = n
				refused(t, g)
			}
		})
	}
	for _, n := range badPages {
		places(n, func(f api.Fault) { refused(t, f) })
	}
}

// P8.1, R4: several numbers that may not be are one ErrForm.
func TestManyBad(t *testing.T) {
	for i, kind := range badKinds {
		for _, stage := range badStages {
			refused(t, api.Fault{Kind: kind, Stage: stage})
			for j, level := range badLevels {
				refused(t, api.Fault{Kind: kind, Level: level})
				refused(t, api.Fault{Stage: stage, Level: level})
				refused(t, api.Fault{Kind: kind, Stage: stage, Level: level, Walk: true, Page: badPages[(i+j)%len(badPages)]})
			}
		}
	}
}

// P8.1, R4: each bit that no fault has, alone and beside each fault of some pages, tells ErrBad and the zero fault.
func TestStrayBits(t *testing.T) {
	for k := len(shape); k < 64; k++ {
		for _, page := range pages {
			places(page, func(f api.Fault) {
				w := slowWord(f) | 1<<k
				if got, e := syn.Of(w); got != (api.Fault{}) || e != api.ErrBad {
					t.Fatalf("Of(%#x): %+v, %d", w, got, e)
				}
			})
		}
	}
}

// P8.1: words that are none, written out: a kind, a stage, a stray bit, several of these.
func TestOfBad(t *testing.T) {
	for _, w := range []uint64{
		5, 6, 7, 0x18, 0x1c, 0x1f, 0xff, 0xfff05, 0xfff1a, 0xffff5, 0xfffff,
		1 << 20, 1<<20 | 2, 1 << 24, 2 << 24, 1<<24 | 0x591, 1 << 32, 1<<32 | 4, 1 << 63, 1<<63 | 0xfff0a,
		1<<20 | 5, 1<<63 | 0x18, math.MaxUint64, math.MaxUint64 - 0xfffff, math.MaxInt64,
	} {
		if f, e := syn.Of(w); f != (api.Fault{}) || e != api.ErrBad {
			t.Errorf("Of(%#x): %+v, %d", w, f, e)
		}
	}
}

// P8.1, P8.2: words of all kinds, most of them no fault's; under a mask that leaves few stray bits, many are.
func TestOfMany(t *testing.T) {
	w := uint64(1)
	for i := range 1 << 15 {
		w = w*6364136223846793005 + 1442695040888963407
		v := w ^ w>>29
		checkOf(t, v)
		checkOf(t, v%(1<<len(shape)))
		checkOf(t, v%(1<<len(shape))|1<<(i%64))
		checkOf(t, v>>(i%64))
	}
}

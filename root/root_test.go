package root_test

import (
	"math"
	"strings"
	"testing"

	"bulwark/api"
	"bulwark/root"
)

// numbers that are no frame and no tag; some come back among them where bits are lost or a shift drops them.
var (
	badFrames = []int{math.MinInt, math.MinInt + 5, -1 << 52, -1 << 32, -4096, -4095, -2, -1, 4096, 4097, 8191, 8192, 1 << 16, 1 << 24, 1 << 32, 1<<32 + 5, 1 << 36, 1 << 40, 1 << 52, 1<<52 + 5, 1 << 62, math.MaxInt - 4095, math.MaxInt}
	badTags   = []int{math.MinInt, math.MinInt + 3, -1 << 32, -16, -15, -2, -1, 16, 17, 31, 32, 255, 256, 4095, 4096, 1 << 16, 1<<16 + 3, 1 << 32, 1<<32 + 3, 1 << 60, 1 << 62, math.MaxInt - 15, math.MaxInt}
)

// plan is a root's word, bit 0 first: 0 stands for itself, o for On, f for Frame, t for Tag, these two by rising bits.
var plan = "o" + strings.Repeat("0", 11) + strings.Repeat("f", 12) + strings.Repeat("0", 24) + "tttt" + strings.Repeat("0", 12)

// slowWord fills in the plan with a root that may be.
func slowWord(r api.Root) (w uint64) {
	for k, c := range plan {
		b := 0
		switch {
		case c == 'o' && r.On:
			b = 1
		case c == 'f':
			b = r.Frame >> (k - 12) % 2
		case c == 't':
			b = r.Tag >> (k - 48) % 2
		}
		w += uint64(b) << k
	}
	return w
}

// slowOf holds a word against the plan.
func slowOf(w uint64) (r api.Root, e api.Errno) {
	for k, c := range plan {
		b := int(w >> k % 2)
		switch c {
		case '0':
			if b == 1 {
				return api.Root{}, api.ErrBad
			}
		case 'o':
			r.On = b == 1
		case 'f':
			r.Frame += b << (k - 12)
		case 't':
			r.Tag += b << (k - 48)
		}
	}
	return r, api.OK
}

// lawful calls f with each root that may be.
func lawful(f func(r api.Root)) {
	for frame := range 4096 {
		for tag := range 16 {
			f(api.Root{Frame: frame, Tag: tag})
			f(api.Root{On: true, Frame: frame, Tag: tag})
		}
	}
}

// refused says that Word tells ErrForm, and nothing beside it, On or not.
func refused(t *testing.T, frame, tag int) {
	t.Helper()
	for _, on := range []bool{false, true} {
		r := api.Root{On: on, Frame: frame, Tag: tag}
		if w, e := root.Word(r); w != 0 || e != api.ErrForm {
			t.Errorf("%+v: %#x, %d", r, w, e)
		}
	}
}

// checkOf holds Of against the plan, and the word of what it tells against the word that it was of (P4.2).
func checkOf(t *testing.T, w uint64) {
	t.Helper()
	r, e := root.Of(w)
	want, f := slowOf(w)
	if r != want || e != f {
		t.Fatalf("Of(%#x): %+v, %d, not %+v, %d", w, r, e, want, f)
	}
	if e != api.OK {
		return
	}
	if back, f := root.Word(r); back != w || f != api.OK {
		t.Fatalf("Of(%#x): %+v, whose word is %#x, %d", w, r, back, f)
	}
}

// P4.1, P4.2: example 1, the zero root, and words written out: each bit of the document by itself, and the edges.
func TestByHand(t *testing.T) {
	for _, c := range []struct {
		r    api.Root
		want uint64
	}{
		{api.Root{}, 0},
		{api.Root{On: true}, 1},
		{api.Root{Frame: 1}, 1 << 12},
		{api.Root{Frame: 2048}, 1 << 23},
		{api.Root{Frame: api.MaxPage}, 0xfff000},
		{api.Root{On: true, Frame: api.MaxPage}, 0xfff001},
		{api.Root{Tag: 1}, 1 << 48},
		{api.Root{Tag: 8}, 1 << 51},
		{api.Root{Tag: api.MaxTag}, 0xf << 48},
		{api.Root{On: true, Tag: api.MaxTag}, 0xf<<48 | 1},
		{api.Root{On: true, Frame: 5, Tag: 3}, 0x0003_0000_0000_5001},
		{api.Root{Frame: 0xabc, Tag: 0xd}, 0x000d_0000_00ab_c000},
		{api.Root{Frame: api.MaxPage, Tag: api.MaxTag}, 0x000f_0000_00ff_f000},
		{api.Root{On: true, Frame: api.MaxPage, Tag: api.MaxTag}, 0x000f_0000_00ff_f001},
	} {
		w, e := root.Word(c.r)
		r, f := root.Of(c.want)
		if w != c.want || e != api.OK || r != c.r || f != api.OK {
			t.Errorf("%+v, %#x: %#x, %d, %+v, %d", c.r, c.want, w, e, r, f)
		}
	}
}

// P4.1, P4.2: each root that may be has its word, and is told of it.
func TestAllLawful(t *testing.T) {
	lawful(func(r api.Root) {
		w, e := root.Word(r)
		if e != api.OK || w != slowWord(r) {
			t.Fatalf("%+v: %#x, %d", r, w, e)
		}
		if back, f := root.Of(w); back != r || f != api.OK {
			t.Fatalf("%+v: %#x, of which %+v, %d", r, w, back, f)
		}
	})
}

// P4.2: no two roots have one word.
func TestWordsDiffer(t *testing.T) {
	seen := map[uint64]api.Root{}
	lawful(func(r api.Root) {
		w, _ := root.Word(r)
		if other, ok := seen[w]; ok {
			t.Fatalf("%#x: %+v and %+v", w, other, r)
		}
		seen[w] = r
	})
	if len(seen) != 2*4096*16 {
		t.Errorf("%d words", len(seen))
	}
}

// P4.1, R4: a frame that may not be, with each tag that may.
func TestFrames(t *testing.T) {
	for _, frame := range badFrames {
		for tag := range 16 {
			refused(t, frame, tag)
		}
	}
}

// P4.1, R4: a tag that may not be, with each frame that may.
func TestTags(t *testing.T) {
	for _, tag := range badTags {
		for frame := range 4096 {
			refused(t, frame, tag)
		}
	}
}

// P4.1, R4: two errors at once are one ErrForm.
func TestTwoErrors(t *testing.T) {
	for _, frame := range badFrames {
		for _, tag := range badTags {
			refused(t, frame, tag)
		}
	}
}

// P4.1: each bit that no root has, alone and beside each root, tells ErrBad and the zero root.
func TestStrayBits(t *testing.T) {
	for k, c := range plan {
		if c != '0' {
			continue
		}
		lawful(func(r api.Root) {
			w := slowWord(r) | 1<<k
			if got, e := root.Of(w); got != (api.Root{}) || e != api.ErrBad {
				t.Fatalf("Of(%#x): %+v, %d", w, got, e)
			}
		})
	}
}

// P4.1: words with a bit that no root has, or several, written out.
func TestOfBad(t *testing.T) {
	for _, w := range []uint64{
		1 << 1, 1 << 11, 1 << 24, 1 << 47, 1 << 52, 1 << 63,
		1<<11 | 1<<24, 1<<47 | 1<<52, 1<<1 | 1<<63,
		0x5003, 0x5001 | 1<<24, 0x1_0000_5001, 0x0013_0000_0000_5001,
		0xffe, 0xffff_ff00_0000, 0xfff0_0000_0000_0000,
		math.MaxUint64, math.MaxUint64 - 1, math.MaxInt64,
	} {
		if r, e := root.Of(w); r != (api.Root{}) || e != api.ErrBad {
			t.Errorf("Of(%#x): %+v, %d", w, r, e)
		}
	}
}

// P4.1, P4.2: words near to those that may be: one bit, two or three are others.
func TestOfNear(t *testing.T) {
	for _, r := range []api.Root{{}, {On: true}, {On: true, Frame: 5, Tag: 3}, {Frame: 0xabc, Tag: 0xd}, {On: true, Frame: api.MaxPage, Tag: api.MaxTag}} {
		w := slowWord(r)
		for i := range 64 {
			for j := range i + 1 {
				for k := range j + 1 {
					checkOf(t, w^1<<i^1<<j^1<<k)
				}
			}
		}
	}
}

// P4.1, P4.2: words of all kinds, most of them no root's; under a mask that leaves few stray bits, many are.
func TestOfMany(t *testing.T) {
	known := slowWord(api.Root{On: true, Frame: api.MaxPage, Tag: api.MaxTag})
	w := uint64(1)
	for i := range 1 << 16 {
		w = w*6364136223846793005 + 1442695040888963407
		v := w ^ w>>29
		checkOf(t, v)
		checkOf(t, v&known)
		checkOf(t, v&known|1<<(i%64))
		checkOf(t, v>>(i%64))
	}
}

package nest_test

import (
	"fmt"
	"slices"
	"strings"
	"testing"

	"bulwark/api"
	"bulwark/desc"
)

// dice are numbers with nothing regular in them, the same ones in each run.
type dice uint64

func (d *dice) upTo(n int) int {
	*d = *d*6364136223846793005 + 1442695040888963407
	return int(uint64(*d>>33) % uint64(n))
}

// mostly is so, but once in n times.
func (d *dice) mostly(n int) bool {
	return d.upTo(n) > 0
}

// anyLeaf is a leaf of a level; of frames within a memory, mostly.
func (d *dice) anyLeaf(stage, level, frames int) api.Desc {
	x := leafAt(sizes[level]*d.upTo((frames+sizes[level]-1)/sizes[level]), attr("r"))
	if !d.mostly(24) {
		x.Frame = sizes[level] * d.upTo(4096/sizes[level])
	}
	x.W, x.X, x.AF = d.mostly(4), d.mostly(4), d.mostly(12)
	if stage == 1 {
		x.NG = d.upTo(2) == 0
	} else {
		x.R, x.Soft = d.mostly(24), d.upTo(16)
	}
	return x
}

// anyWord is a word that leads on, mostly: tables lead to one of so many.
func (d *dice) anyWord(stage, tables, frames int) uint64 {
	level, x := d.upTo(3), tableAt(d.upTo(tables))
	switch d.upTo(24) {
	case 0:
		return uint64(d.upTo(16)) << 4 // nothing; with a note at stage 2
	case 1:
		return uint64(d.upTo(1<<31))<<33 ^ uint64(d.upTo(1<<31))
	case 2:
		x = tableAt(d.upTo(4096))
	case 3, 4, 5, 6, 7, 8, 9, 10:
		level = 1 + d.upTo(3)
		x = d.anyLeaf(stage, level, frames)
	case 11, 12, 13, 14:
		level = 3
		x = d.anyLeaf(stage, level, frames)
	}
	w, _ := desc.Word(stage, level, x)
	return w
}

// chaos is a memory whose first half is full of stage 2's words, the other one of stage 1's, of all levels.
func chaos(d *dice, frames int) api.Mem {
	m := api.Mem{Words: make([]uint64, frames*8)}
	half, pages := max(1, frames/2), 4096
	if d.upTo(2) == 0 {
		pages = frames // those alone that there are where stage 2 is not on
	}
	for i := range m.Words {
		if i < half*8 {
			m.Words[i] = d.anyWord(2, half, frames)
		} else {
			m.Words[i] = d.anyWord(1, pages, frames)
		}
	}
	return m
}

// part is the part of a memory that has a stage's tables of a level: how many frames, and the first one. Each part is an eighth.
func part(stage, level, frames int) (first, count int) {
	return frames / 8 * (level + 8 - 4*stage), frames / 8
}

// order makes of a chaos one in which most words lead on: tables to tables of the next level, those of stage 1 to where stage 2 leads.
func order(d *dice, m api.Mem, mids [5][]int) {
	frames := len(m.Words) / 8
	for stage := 2; stage > 0; stage-- {
		for level := range 4 {
			first, count := part(stage, level, frames)
			for at := 8 * first; at < 8*(first+count); at++ {
				if x, ok := d.onward(stage, level, frames, mids); ok {
					m.Words[at], _ = desc.Word(stage, level, x)
				}
			}
		}
		mids = reached(m)
	}
}

// onward is a descriptor that leads on; sometimes there is none.
func (d *dice) onward(stage, level, frames int, mids [5][]int) (api.Desc, bool) {
	deeper := level < 3 && (level == 0 || d.mostly(4))
	next := mids[level+1]
	if !d.mostly(24) || stage == 1 && len(next) == 0 {
		return api.Desc{}, false
	}
	if !deeper {
		x := d.anyLeaf(stage, level, frames)
		if stage == 1 {
			page := d.upTo(4096)
			if d.mostly(4) && len(mids[4]) > 0 {
				page = mids[4][d.upTo(len(mids[4]))]
			}
			x.Frame = page / sizes[level] * sizes[level]
		}
		return x, true
	}
	if stage == 1 {
		return tableAt(next[d.upTo(len(next))]), true
	}
	first, count := part(2, level+1, frames)
	return tableAt(first + d.upTo(count)), true
}

// reached are the intermediate pages that stage 2 lets be read, by the level of stage 1 whose part they lead to; the last ones are all of them.
func reached(m api.Mem) (l [5][]int) {
	frames := len(m.Words) / 8
	for page := range 4096 {
		a := slowMid(m, on(0), page, api.AccRead)
		if a.f.Kind != api.FaultNone {
			continue
		}
		l[4] = append(l[4], page)
		for level := range 4 {
			if first, count := part(1, level, frames); a.h.Frame >= first && a.h.Frame < first+count {
				l[level] = append(l[level], page)
			}
		}
	}
	return l
}

// wild is a memory of words of all kinds, and where stage 1 may begin in it.
func wild(d *dice, frames int) (m api.Mem, first []int) {
	m = chaos(d, frames)
	if frames >= 8 && d.mostly(4) {
		order(d, m, [5][]int{})
		first = reached(m)[0]
	}
	return m, first
}

// roots are some that a translation may begin at.
func (d *dice) roots(frames int, first []int) (one, two api.Root) {
	one = api.Root{On: d.mostly(8), Frame: d.upTo(4096), Tag: d.upTo(16)}
	two = api.Root{On: d.mostly(8), Tag: d.upTo(16)}
	if len(first) > 0 && d.mostly(8) {
		one.Frame = first[d.upTo(len(first))]
	}
	if !d.mostly(4) {
		two.Frame = d.upTo(frames + 1)
	}
	if !two.On {
		one.Frame = d.upTo(frames)
	}
	return one, two
}

// many calls f with translations of all kinds.
func many(f func(m api.Mem, one, two api.Root, page, acc int)) {
	d := dice(3)
	for frames := 1; frames <= 64; frames += 3 {
		for range 6 {
			m, first := wild(&d, frames)
			for range 256 {
				one, two := d.roots(frames, first)
				f(m, one, two, d.upTo(4096), d.upTo(3))
			}
		}
	}
}

// P7.1, P7.2: translations of all kinds, as the document's words say them once more.
func TestMany(t *testing.T) {
	ends := map[string]int{}
	many(func(m api.Mem, one, two api.Root, page, acc int) {
		checkMid(t, "many", m, two, page, acc, slowMid(m, two, page, acc))
		want := slowTrans(m, one, two, page, acc)
		checkTrans(t, "many", m, one, two, page, acc, want)
		ends[fmt.Sprint(one.On, two.On, want.f.Kind, want.f.Stage, want.f.Walk, want.f.Level+want.h.Level)]++
	})
	n := 0
	for k := range ends {
		if strings.HasPrefix(k, "true true") {
			n++
		}
	}
	// Hits of levels 1 to 3; FaultTrans at levels 0 to 3, FaultFlag and FaultPerm at 1 to 3, thrice: of stage 1, and of stage 2 with Walk and without; of stage 2 FaultSize at 0 to 3 with Walk, at 1 to 3 without: where no table of its is there at all, the first Mid with Walk tells so.
	if n != 3+3*(4+3+3)+4+3 {
		t.Errorf("%d ends that were met: %v", n, ends)
	}
}

// P7.3: no frame is read that stage 2 does not let be read, but stage 2's own tables.
func TestOnlyWhatMayBeRead(t *testing.T) {
	for frames := 1; frames <= 64; frames += 7 {
		d := dice(frames)
		m, first := wild(&d, frames)
		for range 8 {
			_, two := d.roots(frames, first)
			lawful := map[int]bool{}
			for page := range 4096 {
				a := slowMid(m, two, page, api.AccRead)
				if a.f.Kind == api.FaultNone {
					lawful[a.h.Frame] = true
				}
				for _, frame := range a.read {
					lawful[frame] = true
				}
			}
			for range 256 {
				one, _ := d.roots(frames, first)
				one.On = true
				for _, frame := range trans(m, one, two, d.upTo(4096), d.upTo(3)).read {
					if !lawful[frame] {
						t.Fatalf("%d frames, %+v, %+v: frame %d is read", frames, one, two, frame)
					}
				}
			}
		}
	}
}

// P7.2, P7.3: frames that were not told count nowhere: with other words in them the answer is the same.
func TestOtherFramesDoNotCount(t *testing.T) {
	d := dice(11)
	many(func(m api.Mem, one, two api.Root, page, acc int) {
		want := trans(m, one, two, page, acc)
		x := api.Mem{Words: slices.Clone(m.Words)}
		for i := range x.Words {
			if !slices.Contains(want.read, i/8) {
				x.Words[i] = d.anyWord(1+i%2, len(m.Words)/8, len(m.Words)/8)
			}
		}
		checkTrans(t, "other words elsewhere", x, one, two, page, acc, want)
	})
}

// P7.2: at most 24 frames are read; and each of them is there.
func TestReadsAreFew(t *testing.T) {
	most := 0
	many(func(m api.Mem, one, two api.Root, page, acc int) {
		read := trans(m, one, two, page, acc).read
		most = max(most, len(read))
		for _, frame := range read {
			if frame < 0 || frame >= len(m.Words)/8 {
				t.Fatalf("%+v, %+v, %#o: %v", one, two, page, read)
			}
		}
	})
	if most > 24 {
		t.Errorf("%d frames are read", most)
	}
}

// R1, R2: memory stays as it is, its spare room too; what is told is new, and the same call tells the same.
func TestLeavesAll(t *testing.T) {
	m := course().Mem
	m.Words = append(make([]uint64, 0, 600), m.Words...)
	old := slices.Clone(m.Words)
	for page := range 4096 {
		for i, call := range []func() answer{
			func() answer { return mid(m, courseTwo(), page, api.AccRead) },
			func() answer { return trans(m, courseOne(), courseTwo(), page, api.AccRead) },
			func() answer { return trans(m, courseOne(), courseTwo(), coursePage, page%3) },
			func() answer { return trans(m, api.Root{}, courseTwo(), page, api.AccRead) },
		} {
			one, two := call(), call()
			if !one.same(two) {
				t.Fatalf("call %d, page %#o: %+v, then %+v", i, page, one, two)
			}
			kept := slices.Clone(two.read)
			full := append(one.read, 77, 77, 77, 77)
			for k := range full {
				full[k] = 99
			}
			if !slices.Equal(two.read, kept) || !call().same(answer{two.h, two.f, kept, two.e}) {
				t.Fatalf("call %d, page %#o: two answers share their frames", i, page)
			}
		}
	}
	if !slices.Equal(m.Words, old) || slices.Max(m.Words[:600][courseFrames*8:]) != 0 {
		t.Errorf("the memory has changed")
	}
}

package regs_test

import (
	"math"
	"math/big"
	"reflect"
	"slices"
	"testing"

	"bulwark/api"
	"bulwark/regs"
	"bulwark/root"
)

const ones = ^uint64(0)

// words to lie in registers: ends, their neighbours, words of roots and words that are none's, and some with nothing regular in them.
var words = []uint64{0, 1, 2, 3, 4, 100, 0xfff, 0x1000, 0x5000, 0x5001, 0xfff000, 0xfff001, 0x1000000, 1 << 32, 3<<48 | 0x5001, 15<<48 | 0xfff000, 1 << 52, 1<<63 - 1, 1 << 63, 0xdeadbeef00c0ffee, ones - 4, ones - 3, ones - 1, ones}

// badKs are numbers of no system register; some come back among them where bits are lost.
var badKs = []int{math.MinInt, -1 << 32, -1<<32 + 5, -6, -2, -1, 6, 7, 8, 14, 256, 1 << 16, 1 << 32, 1<<32 + 5, 1 << 62, math.MaxInt}

// next is a row of words with nothing regular in them, the same each time.
func next(r uint64) uint64 { return r*6364136223846793005 + 1442695040888963407 }

// some are registers that are all unlike, and also unlike those of another seed.
func some(seed uint64) (r api.Regs) {
	v := seed
	fill := func(p *uint64) {
		v = next(v)
		*p = v
	}
	for i := range r.X {
		fill(&r.X[i])
	}
	for _, p := range []*uint64{&r.PC, &r.TTBR, &r.SCTLR, &r.VBAR, &r.ELR, &r.ESR, &r.FAR} {
		fill(p)
	}
	return r
}

// names are the system registers' by their numbers, as the document has them.
var names = []string{"TTBR", "SCTLR", "VBAR", "ELR", "ESR", "FAR"}

// slowGet looks for a register by its name.
func slowGet(r api.Regs, k int) uint64 {
	return reflect.ValueOf(r.Sys).FieldByName(names[k]).Uint()
}

// slowSet puts a register by its name.
func slowSet(r api.Regs, k int, v uint64) api.Regs {
	reflect.ValueOf(&r.Sys).Elem().FieldByName(names[k]).SetUint(v)
	return r
}

// slowNext reckons with numbers that have no last bit.
func slowNext(pc uint64, l []int) uint64 {
	all := big.NewInt(1)
	for _, n := range l {
		all.Add(all, big.NewInt(int64(n)))
	}
	all.Mul(all, big.NewInt(4))
	all.Add(all, new(big.Int).SetUint64(pc))
	// Mod is never below 0, whatever the sign of all.
	return all.Mod(all, new(big.Int).Lsh(big.NewInt(1), 64)).Uint64()
}

func checkOne(t *testing.T, r api.Regs, want api.Root) {
	t.Helper()
	if got := regs.One(r); got != want {
		t.Fatalf("One with TTBR %#x, SCTLR %#x: %+v, not %+v", r.TTBR, r.SCTLR, got, want)
	}
}

func checkNext(t *testing.T, r api.Regs, l []int) {
	t.Helper()
	want := r
	want.PC = slowNext(r.PC, l)
	if got := regs.Next(r, l...); got != want {
		t.Fatalf("Next(%+v, %d): %+v, not %+v", r, l, got, want)
	}
}

// P13.1: each register, written out.
func TestByHand(t *testing.T) {
	r := api.Regs{X: [8]uint64{1, 2, 3, 4, 5, 6, 7, 8}, PC: 9, Sys: api.Sys{TTBR: 10, SCTLR: 11, VBAR: 12, ELR: 13, ESR: 14, FAR: 15}}
	for _, c := range []struct {
		k    int
		want uint64
		set  api.Sys
	}{
		{api.SysTTBR, 10, api.Sys{TTBR: 99, SCTLR: 11, VBAR: 12, ELR: 13, ESR: 14, FAR: 15}},
		{api.SysSCTLR, 11, api.Sys{TTBR: 10, SCTLR: 99, VBAR: 12, ELR: 13, ESR: 14, FAR: 15}},
		{api.SysVBAR, 12, api.Sys{TTBR: 10, SCTLR: 11, VBAR: 99, ELR: 13, ESR: 14, FAR: 15}},
		{api.SysELR, 13, api.Sys{TTBR: 10, SCTLR: 11, VBAR: 12, ELR: 99, ESR: 14, FAR: 15}},
		{api.SysESR, 14, api.Sys{TTBR: 10, SCTLR: 11, VBAR: 12, ELR: 13, ESR: 99, FAR: 15}},
		{api.SysFAR, 15, api.Sys{TTBR: 10, SCTLR: 11, VBAR: 12, ELR: 13, ESR: 14, FAR: 99}},
	} {
		if v, e := regs.Get(r, c.k); v != c.want || e != api.OK {
			t.Errorf("Get %d: %d, %d, not %d", c.k, v, e, c.want)
		}
		want := api.Regs{X: r.X, PC: 9, Sys: c.set}
		if x, e := regs.Set(r, c.k, 99); x != want || e != api.OK {
			t.Errorf("Set %d: %+v, %d, not %+v", c.k, x, e, want)
		}
	}
}

// P13.1: each register with words of all kinds: it is told whole, and set whole, and all else stays.
func TestGetSet(t *testing.T) {
	for seed := range uint64(200) {
		r := some(seed)
		for k := range names {
			if v, e := regs.Get(r, k); v != slowGet(r, k) || e != api.OK {
				t.Fatalf("Get(%+v, %d): %#x, %d, not %#x", r, k, v, e, slowGet(r, k))
			}
			for _, v := range words {
				x, e := regs.Set(r, k, v)
				if x != slowSet(r, k, v) || e != api.OK {
					t.Fatalf("Set(%+v, %d, %#x): %+v, %d", r, k, v, x, e)
				}
				if got, e := regs.Get(x, k); got != v || e != api.OK {
					t.Fatalf("%#x was set in %d, and %#x, %d got", v, k, got, e)
				}
			}
		}
	}
}

// P13.1, R4: a number of no register is ErrForm, and nothing stands beside it.
func TestBadNumbers(t *testing.T) {
	for _, r := range []api.Regs{{}, some(1), some(2)} {
		for _, k := range badKs {
			if v, e := regs.Get(r, k); v != 0 || e != api.ErrForm {
				t.Errorf("Get %d: %#x, %d", k, v, e)
			}
			for _, v := range words {
				if x, e := regs.Set(r, k, v); x != (api.Regs{}) || e != api.ErrForm {
					t.Errorf("Set %d, %#x: %+v, %d", k, v, x, e)
				}
			}
		}
	}
}

// P13.2: roots written out: on by SCTLR's bit 0 alone, and where TTBR says.
func TestOneByHand(t *testing.T) {
	for _, c := range []struct {
		ttbr, sctlr uint64
		want        api.Root
	}{
		{0, 0, api.Root{}},
		{0, 1, api.Root{On: true}},
		{1, 0, api.Root{}},
		{1, 1, api.Root{On: true}},
		{0, 2, api.Root{}},
		{1, ones - 1, api.Root{}},
		{0, ones, api.Root{On: true}},
		{0, 1 << 63, api.Root{}},
		{0, 1<<63 + 1, api.Root{On: true}},
		{0x5000, 0, api.Root{Frame: 5}},
		{0x5000, 1, api.Root{On: true, Frame: 5}},
		{0x5001, 0, api.Root{Frame: 5}},
		{0x5001, 1, api.Root{On: true, Frame: 5}},
		{3 << 48, 0, api.Root{Tag: 3}},
		{3<<48 | 0x5001, 2, api.Root{Frame: 5, Tag: 3}},
		{15<<48 | 0xfff000, 3, api.Root{On: true, Frame: api.MaxPage, Tag: api.MaxTag}},
		{15<<48 | 0xfff001, 0, api.Root{Frame: api.MaxPage, Tag: api.MaxTag}},
		{3<<48 | 0x5002, 1, api.Root{On: true}},
		{3<<48 | 0x5003, 1, api.Root{On: true}},
		{3<<48 | 0x5800, 0, api.Root{}},
		{3<<48 | 0x1005000, 1, api.Root{On: true}},
		{1<<47 | 0x5000, 1, api.Root{On: true}},
		{1<<52 | 0x5000, 1, api.Root{On: true}},
		{1<<63 | 0x5000, 0, api.Root{}},
		{ones, 1, api.Root{On: true}},
		{ones, 0, api.Root{}},
	} {
		checkOne(t, api.Regs{Sys: api.Sys{TTBR: c.ttbr, SCTLR: c.sctlr}}, c.want)
	}
}

// P13.2: each frame and each tag, whatever bit 0 of TTBR and all other registers are.
func TestOneRoots(t *testing.T) {
	r := some(13)
	for frame := range api.MaxPage + 1 {
		for tag := range api.MaxTag + 1 {
			w := uint64(frame)<<12 + uint64(tag)<<48
			r.TTBR, r.SCTLR = w, 0
			checkOne(t, r, api.Root{Frame: frame, Tag: tag})
			r.TTBR = w + 1
			checkOne(t, r, api.Root{Frame: frame, Tag: tag})
			r.SCTLR = 1
			checkOne(t, r, api.Root{On: true, Frame: frame, Tag: tag})
			r.TTBR = w
			checkOne(t, r, api.Root{On: true, Frame: frame, Tag: tag})
		}
	}
}

// P13.2: a bit that no root's word has, beside those of one: Frame 0 and Tag 0, on as SCTLR says.
func TestOneBadBits(t *testing.T) {
	for k := range 64 {
		frame, tag := k >= 12 && k < 24, k >= 48 && k < 52
		if k == 0 || frame || tag {
			continue
		}
		for _, w := range []uint64{0, 1, 7<<48 | 0x9000, 7<<48 | 0x9001, 15<<48 | 0xfff001} {
			checkOne(t, api.Regs{Sys: api.Sys{TTBR: w | 1<<k}}, api.Root{})
			checkOne(t, api.Regs{Sys: api.Sys{TTBR: w | 1<<k, SCTLR: 1}}, api.Root{On: true})
		}
	}
}

// P13.2: words of all kinds in TTBR and SCTLR, against root.Of of a TTBR that is even.
func TestOneMany(t *testing.T) {
	for seed := range uint64(1 << 13) {
		for _, mask := range []uint64{ones, 0xf000000fff001, 0xf000000fff003} {
			r := some(seed)
			r.TTBR &= mask
			want, _ := root.Of(r.TTBR / 2 * 2)
			want.On = r.SCTLR%2 == 1
			checkOne(t, r, want)
		}
	}
}

// P13.3: an exception: the four that it makes, and all others stay; VBAR and PC may be anything.
func TestTrap(t *testing.T) {
	for seed := range uint64(500) {
		for _, r := range []api.Regs{{}, some(seed), {PC: ones, Sys: api.Sys{VBAR: 3}}} {
			for _, v := range words {
				want := r
				want.ELR, want.PC, want.ESR, want.FAR = r.PC, r.VBAR, v, seed
				if got := regs.Trap(r, v, seed); got != want {
					t.Fatalf("Trap(%+v, %#x, %#x): %+v, not %+v", r, v, seed, got, want)
				}
			}
		}
	}
}

// P13.3: an exception within an exception: ELR is where the second one came, which is where the first one led.
func TestTrapTwice(t *testing.T) {
	r := api.Regs{PC: 100, Sys: api.Sys{VBAR: 400}}
	want := api.Regs{PC: 400, Sys: api.Sys{VBAR: 400, ELR: 400, ESR: 3, FAR: 4}}
	if got := regs.Trap(regs.Trap(r, 1, 2), 3, 4); got != want {
		t.Errorf("%+v, not %+v", got, want)
	}
}

// P13.3: Back makes PC what ELR is, and all others stay, ELR too.
func TestBack(t *testing.T) {
	for seed := range uint64(500) {
		r := some(seed)
		want := r
		want.PC = r.ELR
		if got := regs.Back(r); got != want {
			t.Fatalf("Back(%+v): %+v, not %+v", r, got, want)
		}
		if got := regs.Back(want); got != want {
			t.Fatalf("Back twice: %+v, not %+v", got, want)
		}
	}
	if got := regs.Back(api.Regs{PC: 8}); got != (api.Regs{}) {
		t.Errorf("Back to 0: %+v", got)
	}
}

// P13.3: example 1, and places written out, called with values and with a row.
func TestNextByHand(t *testing.T) {
	for _, c := range []struct {
		pc   uint64
		l    []int
		want uint64
	}{
		{0, nil, 4},
		{0, []int{}, 4},
		{100, []int{0}, 104},
		{100, []int{0, 0, 0}, 104},
		{100, []int{1}, 108},
		{100, []int{-1}, 100},
		{100, []int{-2}, 96},
		{0, []int{-2}, ones - 3},
		{ones - 3, nil, 0},
		{ones, nil, 3},
		{3, []int{1}, 11},
		{100, []int{5, -2, 3}, 128},
		{1<<32 - 4, nil, 1 << 32},
		{0, []int{api.MaxImm}, 4 * 2048},
		{0, []int{-api.MaxImm - 1}, ones - 4*2047 + 1},
		{100, []int{1 << 62}, 104},
		{100, []int{1 << 61}, 1<<63 + 104},
		{100, []int{1 << 61, 1 << 61}, 104},
		{100, []int{math.MaxInt}, 100},
		{100, []int{math.MinInt}, 104},
		{100, []int{math.MaxInt, math.MaxInt, 2}, 104},
		{100, []int{math.MinInt, math.MinInt, 1}, 108},
	} {
		r := api.Regs{X: [8]uint64{7: 1}, PC: c.pc, Sys: api.Sys{ELR: 2, FAR: 3}}
		want := r
		want.PC = c.want
		if got := regs.Next(r, c.l...); got != want {
			t.Errorf("Next of %#x by %d: %+v, not %#x", c.pc, c.l, got, c.want)
		}
	}
	r := api.Regs{PC: 100}
	if regs.Next(r).PC != 104 || regs.Next(r, 2).PC != 112 || regs.Next(r, 2, -1, 3).PC != 120 {
		t.Errorf("with values: %d, %d, %d", regs.Next(r).PC, regs.Next(r, 2).PC, regs.Next(r, 2, -1, 3).PC)
	}
}

// P13.3: rows of all kinds and lengths, against numbers that do not wrap round.
func TestNextMany(t *testing.T) {
	steps := []int{0, 1, -1, 2, -2, 7, -2048, 2047, 1 << 30, -1 << 30, 1 << 31, 1 << 32, 1 << 60, 1 << 61, 1<<61 - 1, 1 << 62, -1 << 62, math.MaxInt, math.MinInt, math.MinInt + 1}
	for _, pc := range words {
		r := some(pc)
		r.PC = pc
		for i := range steps {
			for k := i; k <= len(steps); k++ {
				checkNext(t, r, steps[i:k])
			}
		}
	}
	for seed := range uint64(1 << 10) {
		r := some(seed)
		checkNext(t, r, []int{int(r.X[0]), int(r.X[1]), int(r.X[2]) >> 50})
	}
}

// P13.3: a long row, of which each place counts.
func TestLongNext(t *testing.T) {
	r := some(5)
	l := make([]int, 5000)
	for i := range l {
		l[i] = int(next(uint64(i)))
	}
	checkNext(t, r, l)
	want := regs.Next(r, l...).PC + 4
	for i := range l {
		l[i]++
		if got := regs.Next(r, l...).PC; got != want {
			t.Fatalf("with one more at %d: %#x, not %#x", i, got, want)
		}
		l[i]--
	}
}

// R1, R2: a row that is handed in stays as it is, its spare room too, and registers stay; the same is told again.
func TestStays(t *testing.T) {
	room := []int{3, -4, 5, 6, 7}
	r := some(9)
	for k := range room {
		first := regs.Next(r, room[:k]...)
		if again := regs.Next(r, room[:k]...); again != first {
			t.Errorf("%d numbers: %+v, and then %+v", k, first, again)
		}
	}
	if !slices.Equal(room, []int{3, -4, 5, 6, 7}) {
		t.Errorf("the row was made %d", room)
	}
	regs.Set(r, api.SysVBAR, 1)
	regs.Set(r, 6, 1)
	regs.Trap(r, 1, 2)
	regs.Back(r)
	if r != some(9) {
		t.Errorf("the registers were made %+v", r)
	}
}

// P13.4: behind a Trap, Back is where it was, also where the one between changes all but ELR.
func TestThereAndBack(t *testing.T) {
	for _, pc := range words {
		for _, vbar := range words {
			r := some(pc + vbar)
			r.PC, r.VBAR = pc, vbar
			trapped := regs.Trap(r, pc, vbar)
			want := r
			want.ELR, want.ESR, want.FAR = pc, pc, vbar
			if got := regs.Back(trapped); got != want {
				t.Fatalf("Back behind a Trap of %+v: %+v", r, got)
			}
			other := some(vbar)
			other.ELR = trapped.ELR
			if got := regs.Back(regs.Next(other, 3)).PC; got != pc {
				t.Fatalf("Back: %#x, not %#x", got, pc)
			}
		}
	}
}

// P13.4: what was set is got, and nothing else is changed by it: what is set twice has the second one.
func TestSetTwice(t *testing.T) {
	for k := range names {
		for j := range names {
			x, _ := regs.Set(some(3), k, 11)
			x, _ = regs.Set(x, j, 22)
			want := uint64(11)
			if j == k {
				want = 22
			}
			if v, e := regs.Get(x, k); v != want || e != api.OK {
				t.Errorf("%d, then %d: %d, %d, not %d", k, j, v, e, want)
			}
		}
	}
}

package insn_test

import (
	"math"
	"testing"

	"bulwark/api"
	"bulwark/insn"
)

// bad has numbers that are none from least to most; some come back among those that are where bits are lost.
func bad(least, most int) []int {
	return []int{math.MinInt, math.MinInt + 1, -1 << 62, -1 << 32, -1<<32 + most, -1 << 16, least - 4096, least - 9, least - 2, least - 1, most + 1, most + 2, most + 8, most + 4096, 2*most + 4096, 1 << 16, 1<<16 + most, 1 << 29, 1 << 32, 1<<32 + 1, 1<<32 + most, 1 << 52, 1 << 62, 1<<62 + most, math.MaxInt - 1, math.MaxInt}
}

func isIn(n, least, most int) bool {
	return least <= n && n <= most
}

// slowMay says whether x may be, in the document's words.
func slowMay(x api.Insn) bool {
	if !isIn(x.Op, 1, 16) || !isIn(x.D, 0, 7) || !isIn(x.N, 0, 7) || !isIn(x.M, 0, 7) || !isIn(x.Imm, -2048, 2047) {
		return false
	}
	if x.Op == api.OpLoad || x.Op == api.OpStore {
		return x.M <= 3
	}
	if x.Op == api.OpRead || x.Op == api.OpWrite {
		return isIn(x.Imm, 0, 5)
	}
	return x.Op != api.OpInval || isIn(x.Imm, 3, 5)
}

// shape is an instruction's word, bit 0 first: i stands for Imm, m, n and d for M, N and D, o for Op, each by rising bits; no instruction has the bits of the dots.
const shape = "iiiiiiiiiiii" + "......" + "mmm" + "nnn" + "ddd" + "ooooo"

// slowWord counts each number out into its bits, for one that may be.
func slowWord(x api.Insn) (w uint32) {
	rest := [128]int{'i': (x.Imm + 4096) % 4096, 'm': x.M, 'n': x.N, 'd': x.D, 'o': x.Op}
	for k := range len(shape) {
		w += uint32(rest[shape[k]]%2) << k
		rest[shape[k]] /= 2
	}
	return w
}

// slowOf gathers each number from its bits, and asks whether they may be.
func slowOf(w uint32) (api.Insn, api.Errno) {
	n := [128]int{}
	for k := len(shape) - 1; k >= 0; k-- {
		n[shape[k]] = n[shape[k]]*2 + int(w>>k%2)
	}
	x := api.Insn{Op: n['o'], D: n['d'], N: n['n'], M: n['m'], Imm: n['i']}
	if x.Imm >= 2048 {
		x.Imm -= 4096
	}
	if n['.'] != 0 || !slowMay(x) {
		return api.Insn{}, api.ErrBad
	}
	return x, api.OK
}

// refused says that Check and Word tell ErrForm, and nothing beside it.
func refused(t *testing.T, x api.Insn) {
	t.Helper()
	if w, e := insn.Word(x); w != 0 || e != api.ErrForm {
		t.Fatalf("Word(%+v): %#x, %d", x, w, e)
	}
	if e := insn.Check(x); e != api.ErrForm {
		t.Fatalf("Check(%+v): %d", x, e)
	}
}

// checkInsn holds Check and Word against the document's words, and Of against what had that word (P11.1, P11.2).
func checkInsn(t *testing.T, x api.Insn) {
	t.Helper()
	if !slowMay(x) {
		refused(t, x)
		return
	}
	w, e := insn.Word(x)
	if w != slowWord(x) || e != api.OK || insn.Check(x) != api.OK {
		t.Fatalf("%+v: %#x, %d, %d, not %#x", x, w, e, insn.Check(x), slowWord(x))
	}
	if back, e := insn.Of(w); back != x || e != api.OK {
		t.Fatalf("%+v: %#x, of which %+v, %d", x, w, back, e)
	}
}

// checkOf holds Of against the shape, and the word of what it tells against the word that it was of (P11.1, P11.2).
func checkOf(t *testing.T, w uint32) {
	t.Helper()
	x, e := insn.Of(w)
	want, none := slowOf(w)
	if x != want || e != none {
		t.Fatalf("Of(%#x): %+v, %d, not %+v, %d", w, x, e, want, none)
	}
	if e != api.OK {
		return
	}
	if back, e := insn.Word(x); back != w || e != api.OK {
		t.Fatalf("Of(%#x): %+v, whose word is %#x, %d", w, x, back, e)
	}
}

// lawful calls f with an instruction of each Op that may be, as all others of it may.
func lawful(f func(x api.Insn)) {
	for op := api.OpMove; op <= api.OpBack; op++ {
		x := api.Insn{Op: op, D: 2, N: 1, M: 3, Imm: 4}
		f(x)
		f(api.Insn{Op: op, D: 7, Imm: 3})
		f(api.Insn{Op: op, N: 7, M: 1, Imm: 5})
	}
}

// P11.1, P11.2: example 1, and words written out: each field by itself, and the edges of each.
func TestByHand(t *testing.T) {
	for _, c := range []struct {
		x    api.Insn
		want uint32
	}{
		{api.Insn{Op: api.OpMove, Imm: 1}, 0x08000001},
		{api.Insn{Op: api.OpMove}, 0x08000000},
		{api.Insn{Op: api.OpAdd}, 0x10000000},
		{api.Insn{Op: api.OpSub}, 0x18000000},
		{api.Insn{Op: api.OpAnd}, 0x20000000},
		{api.Insn{Op: api.OpOr}, 0x28000000},
		{api.Insn{Op: api.OpXor}, 0x30000000},
		{api.Insn{Op: api.OpLoad}, 0x38000000},
		{api.Insn{Op: api.OpStore}, 0x40000000},
		{api.Insn{Op: api.OpJump}, 0x48000000},
		{api.Insn{Op: api.OpZero}, 0x50000000},
		{api.Insn{Op: api.OpRead}, 0x58000000},
		{api.Insn{Op: api.OpWrite}, 0x60000000},
		{api.Insn{Op: api.OpInval, Imm: api.InvStage}, 0x68000003},
		{api.Insn{Op: api.OpInval, Imm: api.InvASID}, 0x68000004},
		{api.Insn{Op: api.OpInval, Imm: api.InvPage}, 0x68000005},
		{api.Insn{Op: api.OpWait}, 0x70000000},
		{api.Insn{Op: api.OpCall}, 0x78000000},
		{api.Insn{Op: api.OpBack}, 0x80000000},
		{api.Insn{Op: api.OpMove, D: 1}, 0x09000000},
		{api.Insn{Op: api.OpMove, D: 7}, 0x0f000000},
		{api.Insn{Op: api.OpMove, N: 1}, 0x08200000},
		{api.Insn{Op: api.OpMove, N: 7}, 0x08e00000},
		{api.Insn{Op: api.OpMove, M: 1}, 0x08040000},
		{api.Insn{Op: api.OpMove, M: 7}, 0x081c0000},
		{api.Insn{Op: api.OpMove, Imm: -1}, 0x08000fff},
		{api.Insn{Op: api.OpMove, Imm: api.MaxImm}, 0x080007ff},
		{api.Insn{Op: api.OpMove, Imm: -api.MaxImm - 1}, 0x08000800},
		{api.Insn{Op: api.OpLoad, D: 1, N: 2, M: 3, Imm: -8}, 0x394c0ff8},
		{api.Insn{Op: api.OpStore, D: 7, N: 7, M: 3, Imm: 2047}, 0x47ec07ff},
		{api.Insn{Op: api.OpRead, D: 3, N: 7, M: 7, Imm: api.SysFAR}, 0x5bfc0005},
		{api.Insn{Op: api.OpWrite, D: 7, N: 4, Imm: api.SysESR}, 0x67800004},
		{api.Insn{Op: api.OpInval, D: 7, N: 7, M: 7, Imm: api.InvPage}, 0x6ffc0005},
		{api.Insn{Op: api.OpBack, D: 7, N: 7, M: 7, Imm: -1}, 0x87fc0fff},
	} {
		w, e := insn.Word(c.x)
		x, f := insn.Of(c.want)
		if w != c.want || e != api.OK || x != c.x || f != api.OK || insn.Check(c.x) != api.OK {
			t.Errorf("%+v, %#x: %#x, %d, %+v, %d", c.x, c.want, w, e, x, f)
		}
	}
}

// P11.1, P11.2: each Op, D, N and M, those one beyond among them, with some Imms.
func TestRegs(t *testing.T) {
	for op := -1; op <= 18; op++ {
		for k := range 1000 {
			for _, imm := range []int{-1, 0, 3, 5} {
				checkInsn(t, api.Insn{Op: op, D: k%10 - 1, N: k/10%10 - 1, M: k/100 - 1, Imm: imm})
			}
		}
	}
}

// P11.1, P11.2: each Imm, and those around, of each Op.
func TestImms(t *testing.T) {
	for op := range 18 {
		for imm := -3000; imm <= 3000; imm++ {
			checkInsn(t, api.Insn{Op: op, Imm: imm})
			checkInsn(t, api.Insn{Op: op, D: 5, N: 6, M: imm & 7, Imm: imm})
		}
	}
}

// P11.1: of the Ops that are asked for more, the last that may be, and the next.
func TestEdgesOfOps(t *testing.T) {
	for _, op := range []int{api.OpLoad, api.OpStore} {
		checkInsn(t, api.Insn{Op: op, M: 3})
		for m := 4; m <= 7; m++ {
			refused(t, api.Insn{Op: op, M: m})
		}
	}
	for _, op := range []int{api.OpRead, api.OpWrite} {
		checkInsn(t, api.Insn{Op: op, Imm: api.SysTTBR})
		checkInsn(t, api.Insn{Op: op, Imm: api.SysFAR, M: 7})
		for _, imm := range []int{api.SysFAR + 1, api.MaxImm, -1, -api.MaxImm - 1} {
			refused(t, api.Insn{Op: op, Imm: imm})
		}
	}
	for _, imm := range []int{-api.MaxImm - 1, -1, api.InvNone, api.InvAll, api.InvVM, api.InvMid, api.InvMid + 1, api.MaxImm} {
		refused(t, api.Insn{Op: api.OpInval, Imm: imm})
	}
}

// P11.1, R4: one number that may not be, beside all others that may, whatever the Op makes of it.
func TestOneBad(t *testing.T) {
	for _, n := range bad(api.OpMove, api.OpBack) {
		refused(t, api.Insn{Op: n, Imm: 4})
		refused(t, api.Insn{Op: n, D: 7, N: 7, M: 3, Imm: 5})
	}
	refused(t, api.Insn{})
	lawful(func(x api.Insn) {
		checkInsn(t, x)
		for _, n := range bad(0, 7) {
			for k := range 3 {
				y := x
				*[]*int{&y.D, &y.N, &y.M}[k] = n
				refused(t, y)
			}
		}
		for _, n := range bad(-2048, 2047) {
			y := x
			y.Imm = n
			refused(t, y)
		}
	})
}

// P11.1, R4: several numbers that may not be are one ErrForm.
func TestManyBad(t *testing.T) {
	for i, op := range bad(api.OpMove, api.OpBack) {
		imm := bad(-2048, 2047)
		for k, reg := range bad(0, 7) {
			n := imm[(i+k)%len(imm)]
			refused(t, api.Insn{Op: op, D: reg})
			refused(t, api.Insn{Op: op, Imm: n})
			refused(t, api.Insn{Op: api.OpLoad, N: reg, Imm: n})
			refused(t, api.Insn{Op: op, D: reg, N: -reg, M: reg, Imm: n})
		}
	}
}

// P11.1, R4: each bit that no instruction has, alone and beside others, tells ErrBad and the zero instruction.
func TestStrayBits(t *testing.T) {
	lawful(func(x api.Insn) {
		for stray := uint32(1); stray < 64; stray++ {
			w := slowWord(x) | stray<<12
			if y, e := insn.Of(w); y != (api.Insn{}) || e != api.ErrBad {
				t.Fatalf("Of(%#x): %+v, %d", w, y, e)
			}
		}
	})
}

// P11.1: words that are none, written out: an Op, a size, a system register, a kind.
func TestOfBad(t *testing.T) {
	for _, w := range []uint32{
		0, 1, 0x07fc0fff, 0x88000000, 0x90000000, 0xf8000000, 0xc0000000, math.MaxUint32, math.MaxInt32,
		0x38100000, 0x381c0000, 0x40100000, 0x58000006, 0x58000fff, 0x58000800, 0x60000006, 0x60000fff,
		0x68000000, 0x68000001, 0x68000002, 0x68000006, 0x68000fff, 0x68000803, 0x08001000, 0x08020000,
	} {
		if x, e := insn.Of(w); x != (api.Insn{}) || e != api.ErrBad {
			t.Errorf("Of(%#x): %+v, %d", w, x, e)
		}
	}
}

// P11.1, P11.2: each word of an Op and an Imm, with some registers: so many are an instruction's, and no other.
func TestOfAll(t *testing.T) {
	n := 0
	for _, regs := range []uint32{0, 0x8d, 0x1ff} {
		for op := range uint32(32) {
			for imm := range uint32(4096) {
				w := op<<27 | regs<<18 | imm
				checkOf(t, w)
				if _, e := insn.Of(w); e == api.OK {
					n++
				}
			}
		}
	}
	// Of the third row of registers, M is 7, and of the second 5: no load or store has those.
	if n != 3*(11*4096+2*6+3)+2*4096 {
		t.Errorf("%d instructions", n)
	}
}

// P11.1, P11.2: words of all kinds, most of them no instruction's; without stray bits, many are.
func TestOfMany(t *testing.T) {
	r := uint64(1)
	for range 1 << 17 {
		r = r*6364136223846793005 + 1442695040888963407
		w := uint32(r >> 32)
		checkOf(t, w)
		checkOf(t, w&^0x3f000)
		checkOf(t, w&^0x3fff8)
		checkOf(t, w&^0x3f000|w&0x3f<<12)
		checkOf(t, w>>27*0x08000000|w&7)
	}
}

// P11.2: no two instructions have one word.
func TestWordsDiffer(t *testing.T) {
	seen := map[uint32]api.Insn{}
	for op := api.OpMove; op <= api.OpBack; op++ {
		for k := range 1 << 12 {
			x := api.Insn{Op: op, D: k % 8, N: k / 8 % 8, M: k / 64 % 8, Imm: k/512 - 1}
			w, e := insn.Word(x)
			if other, ok := seen[w]; ok && e == api.OK {
				t.Fatalf("%#x: %+v and %+v", w, x, other)
			}
			if e == api.OK {
				seen[w] = x
			}
		}
	}
}

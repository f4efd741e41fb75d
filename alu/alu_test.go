package alu_test

import (
	"math"
	"math/big"
	"slices"
	"testing"

	"bulwark/alu"
	"bulwark/api"
)

const ones = ^uint64(0)

// words to reckon with: ends, their neighbours, stripes, and some with nothing regular in them.
var words = []uint64{0, 1, 2, 3, 7, 8, 0xcc, 0xaa, 2047, 2048, 2049, 4095, 4096, 1<<31 - 1, 1 << 31, 1<<32 - 1, 1 << 32, 1<<32 + 1, 1<<53 + 1, 1<<62 - 1, 1<<63 - 1, 1 << 63, 1<<63 + 1, 0x5555555555555555, 0xaaaaaaaaaaaaaaaa, 0x0123456789abcdef, 0xfedcba9876543210, 0xdeadbeef00c0ffee, ones - 4096, ones - 2048, ones - 2047, ones - 2, ones - 1, ones}

// imms to reckon with: the edges of what may be, and of its bits.
var imms = []int{-2048, -2047, -1025, -1024, -9, -8, -2, -1, 0, 1, 2, 7, 8, 1023, 1024, 2046, 2047}

var ops = []int{api.OpMove, api.OpAdd, api.OpSub, api.OpAnd, api.OpOr, api.OpXor}

// wrap is x modulo 2^64, as a word.
func wrap(x *big.Int) uint64 {
	// Mod is never below 0, whatever the sign of x.
	return new(big.Int).Mod(x, new(big.Int).Lsh(big.NewInt(1), 64)).Uint64()
}

func number(v uint64) *big.Int { return new(big.Int).SetUint64(v) }

// slowBits asks of does for each pair of bits by itself.
func slowBits(n, m uint64, does func(a, b uint64) bool) (x uint64) {
	for k := range 64 {
		if does(n>>k%2, m>>k%2) {
			x += 1 << k
		}
	}
	return x
}

// slowDo reckons with numbers that have no last bit, and bit by bit.
func slowDo(x api.Insn, n, m uint64) uint64 {
	imm := big.NewInt(int64(x.Imm))
	switch x.Op {
	case api.OpMove:
		return wrap(imm)
	case api.OpAdd:
		return wrap(imm.Add(imm, number(n)).Add(imm, number(m)))
	case api.OpSub:
		d := number(n)
		return wrap(d.Sub(d, number(m)).Sub(d, imm))
	case api.OpAnd:
		return slowBits(n, m, func(a, b uint64) bool { return a+b == 2 })
	case api.OpOr:
		return slowBits(n, m, func(a, b uint64) bool { return a+b > 0 })
	case api.OpXor:
		return slowBits(n, m, func(a, b uint64) bool { return a != b })
	}
	panic("no such Op")
}

func slowSum(l []uint64) uint64 {
	all := new(big.Int)
	for _, v := range l {
		all.Add(all, number(v))
	}
	return wrap(all)
}

func checkDo(t *testing.T, x api.Insn, n, m uint64) {
	t.Helper()
	if v, e := alu.Do(x, n, m); v != slowDo(x, n, m) || e != api.OK {
		t.Fatalf("Do(%+v, %#x, %#x): %#x, %d, not %#x", x, n, m, v, e, slowDo(x, n, m))
	}
}

// refused says that Do tells ErrForm, and nothing beside it.
func refused(t *testing.T, x api.Insn) {
	t.Helper()
	for _, n := range []uint64{0, 5, ones} {
		if v, e := alu.Do(x, n, 6); v != 0 || e != api.ErrForm {
			t.Fatalf("Do(%+v, %#x, 6): %#x, %d", x, n, v, e)
		}
	}
}

// next is a row of words with nothing regular in them, the same each time.
func next(r uint64) uint64 { return r*6364136223846793005 + 1442695040888963407 }

// P12.1: example 1, and results written out.
func TestByHand(t *testing.T) {
	for _, c := range []struct {
		x          api.Insn
		n, m, want uint64
	}{
		{api.Insn{Op: api.OpMove, Imm: -1}, 5, 6, ones},
		{api.Insn{Op: api.OpMove}, 5, 6, 0},
		{api.Insn{Op: api.OpMove, Imm: 1}, ones, ones, 1},
		{api.Insn{Op: api.OpMove, Imm: api.MaxImm}, 5, 6, 0x7ff},
		{api.Insn{Op: api.OpMove, Imm: -api.MaxImm - 1}, 5, 6, 0xfffffffffffff800},
		{api.Insn{Op: api.OpAdd}, 5, 6, 11},
		{api.Insn{Op: api.OpAdd, Imm: 4}, 5, 6, 15},
		{api.Insn{Op: api.OpAdd, Imm: -4}, 5, 6, 7},
		{api.Insn{Op: api.OpAdd, Imm: -12}, 5, 6, ones},
		{api.Insn{Op: api.OpAdd}, ones, 1, 0},
		{api.Insn{Op: api.OpAdd, Imm: 1}, ones, ones, ones},
		{api.Insn{Op: api.OpAdd}, 1 << 63, 1 << 63, 0},
		{api.Insn{Op: api.OpAdd, Imm: 1}, 1<<63 - 1, 0, 1 << 63},
		{api.Insn{Op: api.OpAdd, Imm: 1}, 1<<32 - 1, 0, 1 << 32},
		{api.Insn{Op: api.OpSub}, 9, 3, 6},
		{api.Insn{Op: api.OpSub}, 3, 9, 0xfffffffffffffffa},
		{api.Insn{Op: api.OpSub, Imm: 2}, 9, 3, 4},
		{api.Insn{Op: api.OpSub, Imm: -2}, 9, 3, 8},
		{api.Insn{Op: api.OpSub, Imm: 7}, 9, 3, ones},
		{api.Insn{Op: api.OpSub, Imm: -1}, 0, ones, 2},
		{api.Insn{Op: api.OpSub, Imm: 1}, 1 << 63, 0, 1<<63 - 1},
		{api.Insn{Op: api.OpSub, Imm: -2048}, 0, 0, 2048},
		{api.Insn{Op: api.OpAnd}, 0xcc, 0xaa, 0x88},
		{api.Insn{Op: api.OpOr}, 0xcc, 0xaa, 0xee},
		{api.Insn{Op: api.OpXor}, 0xcc, 0xaa, 0x66},
		{api.Insn{Op: api.OpAnd}, ones, 1 << 63, 1 << 63},
		{api.Insn{Op: api.OpOr}, 1, 1 << 63, 1<<63 + 1},
		{api.Insn{Op: api.OpXor}, ones, 1, ones - 1},
	} {
		if v, e := alu.Do(c.x, c.n, c.m); v != c.want || e != api.OK {
			t.Errorf("Do(%+v, %#x, %#x): %#x, %d, not %#x", c.x, c.n, c.m, v, e, c.want)
		}
	}
}

// P12.1: each Op with each pair of words, and the edges of Imm.
func TestWords(t *testing.T) {
	for _, op := range ops {
		for _, n := range words {
			for _, m := range words {
				for _, imm := range imms {
					checkDo(t, api.Insn{Op: op, Imm: imm}, n, m)
				}
			}
		}
	}
}

// P12.1: each Imm that may be, as 64 bits with its sign.
func TestImms(t *testing.T) {
	for imm := -2048; imm <= 2047; imm++ {
		for _, op := range ops {
			for _, n := range []uint64{0, 1000, 1 << 63, ones} {
				checkDo(t, api.Insn{Op: op, D: 1, N: 2, M: 3, Imm: imm}, n, 0x0123456789abcdef)
				checkDo(t, api.Insn{Op: op, D: 1, N: 2, M: 3, Imm: imm}, 0xdeadbeef00c0ffee, n)
			}
		}
	}
}

// P12.1: words of all kinds.
func TestMany(t *testing.T) {
	r := uint64(12)
	for i := range 1 << 15 {
		n := next(r)
		m := next(n)
		r = next(m)
		checkDo(t, api.Insn{Op: ops[i%len(ops)], Imm: int(r>>52) - 2048}, n, m)
	}
}

// P12.1: D, N and M are registers' numbers, and no numbers to reckon with; M may be more than a size.
func TestRegsDoNotCount(t *testing.T) {
	for _, op := range ops {
		for k := range 512 {
			checkDo(t, api.Insn{Op: op, D: k % 8, N: k / 8 % 8, M: k / 64, Imm: -3}, 0xcc, 0xaa)
		}
	}
}

// P12.1: OpMove takes nothing of n and m, and OpAnd, OpOr and OpXor nothing of Imm.
func TestWhatDoesNotCount(t *testing.T) {
	for _, n := range words {
		for _, m := range words {
			if v, e := alu.Do(api.Insn{Op: api.OpMove, Imm: -7}, n, m); v != ones-6 || e != api.OK {
				t.Fatalf("OpMove beside %#x, %#x: %#x, %d", n, m, v, e)
			}
		}
	}
	for _, op := range []int{api.OpAnd, api.OpOr, api.OpXor} {
		want, _ := alu.Do(api.Insn{Op: op}, 0xf0f0, 0x3c3c)
		for imm := -2048; imm <= 2047; imm++ {
			if v, e := alu.Do(api.Insn{Op: op, Imm: imm}, 0xf0f0, 0x3c3c); v != want || e != api.OK {
				t.Fatalf("Op %d with Imm %d: %#x, %d, not %#x", op, imm, v, e, want)
			}
		}
	}
}

// P12.1, R4: an Op that is none, or that is not reckoned, is ErrForm, though the instruction may be.
func TestBadOps(t *testing.T) {
	for op := api.OpLoad; op <= api.OpBack; op++ {
		for _, imm := range []int{0, api.InvStage, api.InvPage, -1} {
			refused(t, api.Insn{Op: op, Imm: imm})
			refused(t, api.Insn{Op: op, D: 1, N: 2, M: 3, Imm: imm})
		}
	}
	for _, op := range []int{math.MinInt, -1 << 32, -1<<32 + api.OpAdd, -32, -2, -1, api.OpNone, api.OpBack + 1, 32, 32 + api.OpAdd, 256 + api.OpAdd, 1 << 16, 1<<32 + api.OpAdd, 1<<62 + api.OpMove, math.MaxInt} {
		refused(t, api.Insn{Op: op})
		refused(t, api.Insn{Op: op, D: 7, N: 7, M: 7, Imm: -1})
	}
	refused(t, api.Insn{})
}

// P12.1, R4: an instruction that may not be is ErrForm, also where the Op makes nothing of what is wrong.
func TestBadNumbers(t *testing.T) {
	for _, op := range ops {
		for _, n := range []int{math.MinInt, -1 << 32, -8, -1, 8, 9, 256, 1 << 32, 1<<32 + 1, math.MaxInt} {
			refused(t, api.Insn{Op: op, D: n})
			refused(t, api.Insn{Op: op, N: n})
			refused(t, api.Insn{Op: op, M: n})
			refused(t, api.Insn{Op: op, D: n, N: n, M: n, Imm: 4096})
		}
		for _, n := range []int{math.MinInt, -1 << 32, -4096, -2050, -2049, 2048, 2049, 4095, 4096, 1 << 31, 1 << 32, 1<<32 + 1, math.MaxInt} {
			refused(t, api.Insn{Op: op, Imm: n})
			refused(t, api.Insn{Op: op, D: 1, N: 2, M: 3, Imm: n})
		}
	}
}

// P12.1: sums of none, of one, of several, and of those that wrap round, called with values and with a row.
func TestSum(t *testing.T) {
	if alu.Sum() != 0 || alu.Sum(nil...) != 0 || alu.Sum([]uint64{}...) != 0 {
		t.Errorf("sums of nothing: %#x, %#x, %#x", alu.Sum(), alu.Sum(nil...), alu.Sum([]uint64{}...))
	}
	if alu.Sum(1, 2, 3) != 6 || alu.Sum(ones, 1) != 0 || alu.Sum(ones, ones) != ones-1 || alu.Sum(1<<63, 1<<63, 7) != 7 {
		t.Errorf("sums of values: %#x, %#x, %#x, %#x", alu.Sum(1, 2, 3), alu.Sum(ones, 1), alu.Sum(ones, ones), alu.Sum(1<<63, 1<<63, 7))
	}
	for i, n := range words {
		if alu.Sum(n) != n {
			t.Errorf("Sum(%#x): %#x", n, alu.Sum(n))
		}
		for k := i; k <= len(words); k++ {
			if l := words[i:k]; alu.Sum(l...) != slowSum(l) {
				t.Errorf("Sum of %#x: %#x, not %#x", l, alu.Sum(l...), slowSum(l))
			}
		}
	}
}

// P12.1: a long row, of which each place counts.
func TestLongSum(t *testing.T) {
	l := make([]uint64, 5000)
	for i := range l {
		l[i] = next(uint64(i))
	}
	want := slowSum(l)
	if alu.Sum(l...) != want {
		t.Fatalf("%#x, not %#x", alu.Sum(l...), want)
	}
	for i := range l {
		l[i]++
		if alu.Sum(l...) != want+1 {
			t.Fatalf("with one more at %d: %#x, not %#x", i, alu.Sum(l...), want+1)
		}
		l[i]--
	}
}

// R1, R2: a row that is handed in stays as it is, its spare room too, and is told the same again.
func TestRowStays(t *testing.T) {
	l := slices.Clone(words)
	for k := range l {
		first := alu.Sum(l[:k]...)
		if again := alu.Sum(l[:k]...); again != first {
			t.Errorf("%d words: %#x, and then %#x", k, first, again)
		}
	}
	if !slices.Equal(l, words) {
		t.Errorf("%#x was made %#x", words, l)
	}
}

// P12.2: what was added is taken away again, and what was taken away is added again.
func TestThereAndBack(t *testing.T) {
	for _, n := range words {
		for _, m := range words {
			for _, imm := range imms {
				add, sub := api.Insn{Op: api.OpAdd, Imm: imm}, api.Insn{Op: api.OpSub, Imm: imm}
				up, _ := alu.Do(add, n, m)
				if v, e := alu.Do(sub, up, m); v != n || e != api.OK {
					t.Fatalf("%#x and %#x and %d, less these: %#x, %d", n, m, imm, v, e)
				}
				down, _ := alu.Do(sub, n, m)
				if v, e := alu.Do(add, down, m); v != n || e != api.OK {
					t.Fatalf("%#x less %#x less %d, and these: %#x, %d", n, m, imm, v, e)
				}
			}
		}
	}
}

// P12.2: an exclusive or is undone by itself; OpAdd is as Sum of the three.
func TestUndone(t *testing.T) {
	for _, n := range words {
		for _, m := range words {
			x, _ := alu.Do(api.Insn{Op: api.OpXor}, n, m)
			if v, e := alu.Do(api.Insn{Op: api.OpXor}, x, m); v != n || e != api.OK {
				t.Fatalf("%#x and %#x twice: %#x, %d", n, m, v, e)
			}
			minus, _ := alu.Do(api.Insn{Op: api.OpMove, Imm: -5}, 0, 0)
			if v, e := alu.Do(api.Insn{Op: api.OpAdd, Imm: -5}, n, m); v != alu.Sum(n, m, minus) || e != api.OK {
				t.Fatalf("%#x and %#x less 5: %#x, %d, not %#x", n, m, v, e, alu.Sum(n, m, minus))
			}
		}
	}
}

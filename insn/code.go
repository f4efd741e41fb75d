package insn

import (
	"bulwark/api"
	"bulwark/word"
)

// Where the bits of an instruction's word lie.
const (
	atImm = 0
	atM   = 18
	atN   = 21
	atD   = 24
	atOp  = 27

	immBits = 12
	regBits = 3
	opBits  = 5
)

const (
	leastImm = -api.MaxImm - 1
	lastReg  = 7
	lastSize = 3
)

// code is an instruction that may be asked for its word.
type code struct {
	api.Insn
}

// mayBe asks for D, N and M of each Op, also where the Op makes nothing of them.
func (c code) mayBe() bool {
	return areIn(api.OpMove, api.OpBack, c.Op) && areIn(0, lastReg, c.D, c.N, c.M) && areIn(leastImm, api.MaxImm, c.Imm) && c.suitsOp()
}

// suitsOp asks for what some Ops ask beyond all others.
func (c code) suitsOp() bool {
	switch c.Op {
	case api.OpLoad, api.OpStore:
		return areIn(0, lastSize, c.M)
	case api.OpRead, api.OpWrite:
		return areIn(api.SysTTBR, api.SysFAR, c.Imm)
	case api.OpInval:
		return areIn(api.InvStage, api.InvPage, c.Imm)
	}
	return true
}

// areIn tells whether each of l is from least to most.
func areIn(least int, most int, l ...int) bool {
	for _, n := range l {
		if n < least || n > most {
			return false
		}
	}
	return true
}

// word is of a code that may be: then each field may be, too, and no two have a bit in common, nor one beyond 32.
func (c code) word() uint32 {
	w, _ := word.Join(c.fields()...)
	return uint32(w)
}

func (c code) fields() []api.Field {
	return []api.Field{
		{At: atImm, N: immBits, V: c.low()},
		{At: atM, N: regBits, V: uint64(c.M)},
		{At: atN, N: regBits, V: uint64(c.N)},
		{At: atD, N: regBits, V: uint64(c.D)},
		{At: atOp, N: opBits, V: uint64(c.Op)},
	}
}

// low is Imm without the bits above its own: below 0 all of those are 1, and would have no room.
func (c code) low() uint64 {
	v, _ := word.Get(uint64(c.Imm), 0, immBits)
	return v
}

// found is the one code whose word from could be: it need not be one that may be.
type found struct {
	code
	from uint32
}

func read(w uint32) found {
	f := found{from: w}
	f.Op = int(f.bits(atOp, opBits))
	f.D = int(f.bits(atD, regBits))
	f.N = int(f.bits(atN, regBits))
	f.M = int(f.bits(atM, regBits))
	f.Imm = f.signed(atImm, immBits)
	return f
}

// bits asks for places of this file's alone, so that none may not be.
func (f found) bits(at int, n int) uint64 {
	v, _ := word.Get(uint64(f.from), at, n)
	return v
}

func (f found) signed(at int, n int) int {
	v, _ := word.Sign(f.bits(at, n), n)
	return int(v)
}

// whole tells whether nothing was passed over: a bit that no instruction has is missing from the word of what was read.
func (f found) whole() bool {
	return f.mayBe() && f.word() == f.from
}

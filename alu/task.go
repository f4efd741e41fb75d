package alu

import (
	"bulwark/api"
	"bulwark/insn"
)

// task is an instruction that is to be reckoned.
type task struct {
	api.Insn
}

// mayBe leaves to insn what is asked of every instruction: that the Op is one, and also D, N and M, which the result does not hang on.
func (k task) mayBe() bool {
	return insn.Check(k.Insn) == api.OK && k.Op <= api.OpXor
}

// imm keeps the sign: a signed number that becomes a word has all bits above its own like the sign.
func (k task) imm() uint64 {
	return uint64(k.Imm)
}

func (k task) with(n uint64, m uint64) reckoning {
	return reckoning{task: k, n: n, m: m}
}

// reckoning is a task with what its registers have.
type reckoning struct {
	task
	n uint64
	m uint64
}

// result is of a reckoning whose task may be. Words wrap round by themselves: that is modulo 2^64.
func (r reckoning) result() uint64 {
	switch r.Op {
	case api.OpMove:
		return r.imm()
	case api.OpAdd:
		return Sum(r.n, r.m, r.imm())
	case api.OpSub:
		return r.n - Sum(r.m, r.imm())
	case api.OpAnd:
		return r.n & r.m
	case api.OpOr:
		return r.n | r.m
	case api.OpXor:
		return r.n ^ r.m
	}
	return 0
}

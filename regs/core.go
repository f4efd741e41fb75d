package regs

import (
	"bulwark/api"
	"bulwark/root"
	"bulwark/word"
)

// insnBytes is how long an instruction is.
const insnBytes = 4

// system is the system registers.
type system struct {
	api.Sys
}

// place tells where register k is kept, so that what is read and what is written is one; nil if there is none.
func (s *system) place(k int) *uint64 {
	switch k {
	case api.SysTTBR:
		return &s.TTBR
	case api.SysSCTLR:
		return &s.SCTLR
	case api.SysVBAR:
		return &s.VBAR
	case api.SysELR:
		return &s.ELR
	case api.SysESR:
		return &s.ESR
	case api.SysFAR:
		return &s.FAR
	}
	return nil
}

// root asks SCTLR whether stage 1 is on. Any word may stand in TTBR: beside an error root.Of tells Frame 0 and Tag 0, as is asked here.
func (s *system) root() api.Root {
	table, _ := word.Put(s.TTBR, api.Field{N: 1})
	on, _ := word.Get(s.SCTLR, 0, 1)
	r, _ := root.Of(table)
	r.On = on == 1
	return r
}

// note keeps what is told of an exception, and where it came.
func (s *system) note(elr, esr, far uint64) {
	s.ELR, s.ESR, s.FAR = elr, esr, far
}

// core is all registers of one who runs.
type core struct {
	system
	x  [8]uint64
	pc uint64
}

func of(r api.Regs) *core {
	return &core{system: system{r.Sys}, x: r.X, pc: r.PC}
}

func (c *core) regs() api.Regs {
	return api.Regs{X: c.x, PC: c.pc, Sys: c.Sys}
}

func (c *core) trap(esr, far uint64) {
	c.note(c.pc, esr, far)
	c.pc = c.VBAR
}

func (c *core) back() {
	c.pc = c.ELR
}

// move goes by so many instructions. Words wrap round by themselves: a number below 0 goes back.
func (c *core) move(l ...int) {
	for _, n := range l {
		c.pc += insnBytes * uint64(n)
	}
}

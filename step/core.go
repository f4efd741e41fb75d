package step

import (
	"bulwark/alu"
	"bulwark/api"
	"bulwark/insn"
	"bulwark/regs"
	"bulwark/syn"
	"bulwark/word"
)

// insnBytes is how long an instruction is.
const insnBytes = 4

// What a trap is told of that no stage is the cause of.
const (
	esrAlign = 1 << 24
	esrInsn  = 2 << 24
)

// core is a processor at one step: what it shows of it is filled on the way.
type core struct {
	board
	api.Obs
}

func (c *core) step() {
	if c.fetch() {
		c.do()
	}
}

// fetch tells false if the step is at its end without an instruction.
func (c *core) fetch() bool {
	at, ok := c.place(c.PC, insnBytes, api.AccExec)
	if !ok {
		return false
	}
	x, e := insn.Of(uint32(c.read(at, insnBytes)))
	if e != api.OK {
		c.trap(esrInsn, c.PC)
		return false
	}
	c.Insn = x
	return true
}

// do is of an instruction that may be, so that no layer below tells an error of it.
func (c *core) do() {
	switch c.Insn.Op {
	case api.OpLoad:
		c.load()
	case api.OpStore:
		c.store()
	case api.OpJump:
		c.next(c.Insn.Imm)
	case api.OpZero:
		c.nextIfZero()
	case api.OpCall:
		c.Kind = api.StepCall
		c.next()
	case api.OpBack:
		c.Regs = regs.Back(c.Regs)
	default:
		c.doPlain()
	}
}

// doPlain is of the instructions that always go on to the next one.
func (c *core) doPlain() {
	switch c.Insn.Op {
	case api.OpRead:
		c.X[c.Insn.D], _ = regs.Get(c.Regs, c.Insn.Imm)
	case api.OpWrite:
		c.Regs, _ = regs.Set(c.Regs, c.Insn.Imm, c.n())
	case api.OpInval:
		c.owe(c.due())
	case api.OpWait:
		c.wait()
	default:
		c.X[c.Insn.D], _ = alu.Do(c.Insn, c.n(), c.X[c.Insn.M])
	}
	c.next()
}

func (c *core) load() {
	if at, ok := c.place(c.addr(), c.size(), api.AccRead); ok {
		c.X[c.Insn.D] = c.read(at, c.size())
		c.next()
	}
}

func (c *core) store() {
	if at, ok := c.place(c.addr(), c.size(), api.AccWrite); ok {
		c.write(at, c.size(), c.X[c.Insn.D])
		c.next()
	}
}

func (c *core) nextIfZero() {
	if c.n() == 0 {
		c.next(c.Insn.Imm)
		return
	}
	c.next()
}

func (c *core) next(l ...int) {
	c.Regs = regs.Next(c.Regs, l...)
}

// n is what register N has.
func (c *core) n() uint64 {
	return c.X[c.Insn.N]
}

// addr and size are of what is loaded or stored. Words wrap round by themselves: an Imm below 0 goes back.
func (c *core) addr() uint64 {
	return alu.Sum(c.n(), uint64(c.Insn.Imm))
}

func (c *core) size() int {
	return 1 << c.Insn.M
}

// due is what OpInval takes away: never more than of the machine that steps.
func (c *core) due() api.Inval {
	asid, _ := word.Get(c.n(), 48, 4)
	page, _ := word.Get(c.n(), 0, 12)
	return api.Inval{Kind: c.Insn.Imm, VMID: c.two.Tag, ASID: int(asid), Page: int(page)}
}

// place tells where size bytes from addr on lie; false if they don't, and the step is at its end.
func (c *core) place(addr uint64, size int, acc int) (at int, ok bool) {
	if addr%uint64(size) != 0 {
		c.trap(esrAlign, addr)
		return 0, false
	}
	at, f, read := c.reach(regs.One(c.Regs), addr, acc)
	c.Seen = append(c.Seen, read...)
	if f.Kind != api.FaultNone {
		c.fail(f, addr)
		return 0, false
	}
	return at, true
}

// fail tells stage 1's faults to the one who runs, whose they are; stage 2's are the hypervisor's, and the one who runs shall not know of them.
func (c *core) fail(f api.Fault, addr uint64) {
	c.Fault = f
	if f.Stage == 2 {
		c.Kind = api.StepAbort
		return
	}
	esr, _ := syn.Word(f)
	c.trap(esr, addr)
}

func (c *core) trap(esr uint64, far uint64) {
	c.Kind = api.StepTrap
	c.Regs = regs.Trap(c.Regs, esr, far)
}

package step_test

import (
	"fmt"
	"math"
	"slices"
	"testing"

	"bulwark/api"
	"bulwark/desc"
	"bulwark/insn"
	"bulwark/mem"
	"bulwark/step"
)

// asked is all that Step is called with.
type asked struct {
	m    api.Mem
	r    api.Regs
	l    []api.TLB
	cpu  int
	two  api.Root
	pick api.Pick
}

// told is all that Step tells.
type told struct {
	m api.Mem
	r api.Regs
	l []api.TLB
	o api.Obs
	e api.Errno
}

func (a asked) call() (b told) {
	b.m, b.r, b.l, b.o, b.e = step.Step(a.m, a.r, a.l, a.cpu, a.two, a.pick)
	return b
}

func (a told) same(b told) bool {
	return slices.Equal(a.m.Words, b.m.Words) && a.r == b.r && sameTLBs(a.l, b.l) && sameObs(a.o, b.o) && a.e == b.e
}

func sameObs(a, b api.Obs) bool {
	return a.CPU == b.CPU && a.Kind == b.Kind && a.Insn == b.Insn && a.Fault == b.Fault && a.Err == b.Err && slices.Equal(a.Seen, b.Seen) && a.Regs == b.Regs
}

func sameTLBs(a, b []api.TLB) bool {
	return slices.EqualFunc(a, b, func(x, y api.TLB) bool {
		return slices.Equal(x.Entries, y.Entries) && slices.Equal(x.Due, y.Due)
	})
}

func (a asked) check(t *testing.T, name string, want told) {
	t.Helper()
	if got := a.call(); !got.same(want) {
		t.Fatalf("%s: %+v, %+v, %d, %+v, %+v: %+v, %+v, %v, not %+v, %+v, %v", name, a.r, a.l, a.cpu, a.two, a.pick, got.o, got.l, got.e, want.o, want.l, want.e)
	}
}

// then is what is told where nothing but these registers changes.
func (a asked) then(kind int, x api.Insn, r api.Regs, seen ...int) told {
	return told{m: a.m, r: r, l: a.l, o: api.Obs{CPU: a.cpu, Kind: kind, Insn: x, Seen: seen, Regs: r}}
}

// Frames of the house: each page's is another number, so that none passes for the other.
const (
	houseFrames = 24
	codeFrame   = 8 // of page 0
	dataFrame   = 9 // of page 1
	lastFrame   = 23
	vmid        = 3
	asid        = 6
)

// Places of pages of the house.
const (
	code  = 0
	data  = 1 * api.PageBytes // all may be done
	still = 2 * api.PageBytes // it may be read alone
	inert = 3 * api.PageBytes // it may be read and written
	young = 4 * api.PageBytes // no AF
	gap   = 5 * api.PageBytes // nothing
	huge  = 6 * api.PageBytes // a frame beyond memory
	last  = api.MaxPage * api.PageBytes
)

// What is read on the way to the house's pages at stage 2, without their own frames.
var (
	low  = []int{0, 1, 2, 3}
	high = []int{0, 5, 6, 7}
)

// attr is the attribute of those letters: r, w, x, a (AF), n (NG).
func attr(letters string) (a api.Attr) {
	for _, c := range letters {
		switch c {
		case 'r':
			a.R = true
		case 'w':
			a.W = true
		case 'x':
			a.X = true
		case 'a':
			a.AF = true
		case 'n':
			a.NG = true
		}
	}
	return a
}

// ground is a memory in which a test lays tables, instructions and numbers.
type ground struct {
	api.Mem
}

func (g ground) lay(stage, level, frame, page int, d api.Desc) {
	w, e := desc.Word(stage, level, d)
	if e != api.OK {
		panic(fmt.Sprint("no such descriptor: ", stage, level, d))
	}
	g.Words[frame*8+page/[]int{512, 64, 8, 1}[level]%8] = w
}

func tableAt(frame int) api.Desc { return api.Desc{Kind: api.DescTable, Frame: frame} }

func leafAt(frame int, letters string) api.Desc {
	return api.Desc{Kind: api.DescLeaf, Frame: frame, Attr: attr(letters)}
}

// put lays a byte.
func (g ground) put(at int, b byte) {
	g.Words[at/8] = g.Words[at/8]&^(255<<(at%8*8)) | uint64(b)<<(at%8*8)
}

func (g ground) byteAt(at int) byte {
	return byte(g.Words[at/8] >> (at % 8 * 8))
}

// place lays an instruction's word.
func (g ground) place(at int, w uint32) {
	for i := range 4 {
		g.put(at+i, byte(w>>(8*i)))
	}
}

func copyOf(m api.Mem) ground {
	return ground{api.Mem{Words: slices.Clone(m.Words)}}
}

// house is a memory with stage 2's tables in frames 0 to 7, and stage 1's in pages 8 to 11: their frames are 16 to 19.
func house() ground {
	g := ground{api.Mem{Words: make([]uint64, houseFrames*8)}}
	for _, way := range [][]int{{0, 1, 2, 3}, {0, 1, 2, 4}, {0, 5, 6, 7}} {
		page := map[int]int{3: 0, 4: 8, 7: api.MaxPage}[way[3]]
		for level := range 3 {
			g.lay(2, level, way[level], page, tableAt(way[level+1]))
		}
	}
	for page, letters := range []string{"rwxa", "rwxa", "ra", "rwa", "rwx"} {
		g.lay(2, 3, 3, page, leafAt(codeFrame+page, letters))
	}
	g.lay(2, 3, 3, 6, leafAt(houseFrames, "rwxa"))
	g.lay(2, 3, 7, api.MaxPage, leafAt(lastFrame, "rwxa"))
	for page := 8; page < 12; page++ {
		g.lay(2, 3, 4, page, leafAt(page+8, "ra"))
	}
	g.upstairs()
	return g
}

// upstairs lays stage 1: pages 0o1230 to 0o1236.
func (g ground) upstairs() {
	for level := range 3 {
		g.lay(1, level, 16+level, up, tableAt(9+level))
	}
	for i, d := range []api.Desc{leafAt(0, "rxa"), leafAt(1, "rwan"), leafAt(2, "rwa"), leafAt(1, "ra"), leafAt(1, "rw"), {}, leafAt(5, "rwxa")} {
		g.lay(1, 3, 19, up+i, d)
	}
}

// Pages and places by stage 1.
const (
	up       = 0o1230
	upCode   = up * api.PageBytes
	upData   = (up + 1) * api.PageBytes
	upStill  = (up + 2) * api.PageBytes // stage 2 does not let it be written
	upRead   = (up + 3) * api.PageBytes
	upYoung  = (up + 4) * api.PageBytes
	upGap    = (up + 5) * api.PageBytes
	upAbyss  = (up + 6) * api.PageBytes // stage 2 has nothing there
	upOthers = 0o7000 * api.PageBytes   // nothing at level 0
)

// What is read on the way by stage 1: its tables, each by stage 2.
var upWay = []int{0, 1, 2, 4, 16, 0, 1, 2, 4, 17, 0, 1, 2, 4, 18, 0, 1, 2, 4, 19}

// full are registers with something in each of them; stage 1 is not on.
func full() (r api.Regs) {
	for i := range r.X {
		r.X[i] = 0x1111111111111111*uint64(i+1) ^ 0xf0e1
	}
	r.Sys = api.Sys{TTBR: 0xabc, SCTLR: 0xfffffffffffffffe, VBAR: 0x123456789, ELR: 44, ESR: 55, FAR: 66}
	return r
}

// ask is of those instructions, from page 0 on.
func ask(l ...api.Insn) asked {
	g := house()
	for i, x := range l {
		w, e := insn.Word(x)
		if e != api.OK {
			panic(fmt.Sprint("no such instruction: ", x))
		}
		g.place(codeFrame*64+4*i, w)
	}
	return asked{m: g.Mem, r: full(), l: make([]api.TLB, 3), cpu: 1, two: api.Root{On: true, Tag: vmid}, pick: api.Pick{Drop: -1}}
}

// askUp is the same by stage 1.
func askUp(l ...api.Insn) asked {
	a := ask(l...)
	a.r.PC, a.r.TTBR, a.r.SCTLR = upCode, asid<<48|8<<12, 1
	return a
}

// fetched is what is seen of fetching from page 0.
func fetched(more ...int) []int {
	return slices.Concat(low, []int{codeFrame}, more)
}

// fetchedUp is the same by stage 1.
func fetchedUp(more ...int) []int {
	return slices.Concat(upWay, low, []int{codeFrame}, more)
}

// next are the registers at the next instruction.
func (a asked) next() api.Regs {
	a.r.PC += 4
	return a.r
}

// P15.1: a page and a place in it, up to the last byte of the last page.
func TestAt(t *testing.T) {
	for addr := range uint64(1 << 18) {
		page, at, e := step.At(addr)
		if uint64(page)*64+uint64(at) != addr || at < 0 || at > 63 || e != api.OK {
			t.Fatalf("%d: %d, %d, %v", addr, page, at, e)
		}
	}
	for n := 18; n < 64; n++ {
		for _, less := range []uint64{0, 1, 63, 64, 1 << 17} {
			for _, addr := range []uint64{1<<n + less, -(1 << n) - less, ^uint64(0) - less, 1<<n | less<<n} {
				if addr < 1<<18 {
					continue
				}
				if page, at, e := step.At(addr); page != 0 || at != 0 || e != api.ErrLimit {
					t.Fatalf("%#x: %d, %d, %v", addr, page, at, e)
				}
			}
		}
	}
}

// The chapter's example: OpMove: the register, PC and 4; nothing else.
func TestMove(t *testing.T) {
	for d := range 8 {
		for _, imm := range []int{0, 1, 2047, -1, -2, -2048} {
			x := api.Insn{Op: api.OpMove, D: d, N: 7 - d, M: 3, Imm: imm}
			a := ask(x)
			r := a.next()
			r.X[d] = uint64(int64(imm))
			a.check(t, "move", a.then(api.StepDone, x, r, fetched()...))
		}
	}
}

// reckoned is what P12.1 says.
func reckoned(x api.Insn, n, m uint64) uint64 {
	imm := uint64(int64(x.Imm))
	return []uint64{0, imm, n + m + imm, n - m - imm, n & m, n | m, n ^ m}[x.Op]
}

// P15.2 (2, 3): register D is what is reckoned of N and M, whichever these are, be they one.
func TestAlu(t *testing.T) {
	for op := api.OpMove; op <= api.OpXor; op++ {
		for k := range 512 {
			x := api.Insn{Op: op, D: k % 8, N: k / 8 % 8, M: k / 64, Imm: 2047 - 8*k}
			a := ask(x)
			r := a.next()
			r.X[x.D] = reckoned(x, a.r.X[x.N], a.r.X[x.M])
			a.check(t, "alu", a.then(api.StepDone, x, r, fetched()...))
		}
	}
}

// bytesOf are those of the house's memory that page 1 is, numbered.
func (g ground) number() ground {
	for _, frame := range []int{dataFrame, lastFrame, dataFrame + 1} {
		for i := range 64 {
			g.put(frame*64+i, byte(frame+5*i+128))
		}
	}
	return g
}

// P15.2 (2): a load of each size at each place of a page: its bytes, the first one the lowest; all other bits are 0.
func TestLoad(t *testing.T) {
	for m := range 4 {
		size := 1 << m
		for at := 0; at < 64; at += size {
			for _, imm := range []int{0, 1, -1, 63, -64, 2047, -2048} {
				x := api.Insn{Op: api.OpLoad, D: 5, N: 2, M: m, Imm: imm}
				a := ask(x)
				g := copyOf(a.m).number()
				a.m = g.Mem
				for _, p := range []struct {
					from, frame int
					way         []int
				}{{data, dataFrame, low}, {last, lastFrame, high}, {still, dataFrame + 1, low}} {
					a.r.X[2] = uint64(p.from + at - imm)
					r := a.next()
					r.X[5] = 0
					for i := range size {
						r.X[5] |= uint64(g.byteAt(p.frame*64+at+i)) << (8 * i)
					}
					a.check(t, "load", a.then(api.StepDone, x, r, fetched(append(slices.Clone(p.way), p.frame)...)...))
				}
			}
		}
	}
}

// P15.2 (2): a store of each size at each place of a page: the lowest bytes of D lie there, nothing else has changed.
func TestStore(t *testing.T) {
	for m := range 4 {
		size := 1 << m
		for at := 0; at < 64; at += size {
			for _, imm := range []int{0, 7, -64, 2047, -2048} {
				x := api.Insn{Op: api.OpStore, D: 5, N: 2, M: m, Imm: imm}
				a := ask(x)
				a.m = copyOf(a.m).number().Mem
				for _, p := range []struct {
					from, frame int
					way         []int
				}{{data, dataFrame, low}, {last, lastFrame, high}} {
					a.r.X[2] = uint64(p.from + at - imm)
					g := copyOf(a.m)
					for i := range size {
						g.put(p.frame*64+at+i, byte(a.r.X[5]>>(8*i)))
					}
					want := a.then(api.StepDone, x, a.next(), fetched(append(slices.Clone(p.way), p.frame)...)...)
					want.m = g.Mem
					a.check(t, "store", want)
				}
			}
		}
	}
}

// P15.2 (2): D and N may be one; what is loaded or stored may be the instruction itself, or the next one.
func TestMovesOfOne(t *testing.T) {
	x := api.Insn{Op: api.OpLoad, D: 2, N: 2, M: 2, Imm: -5}
	a := ask(x)
	a.r.X[2] = code + 5
	r := a.next()
	w, _ := insn.Word(x)
	r.X[2] = uint64(w)
	a.check(t, "a load of itself", a.then(api.StepDone, x, r, fetched(fetched()...)...))

	x = api.Insn{Op: api.OpStore, D: 2, N: 2, Imm: 0}
	a = ask(x, api.Insn{Op: api.OpMove, D: 1})
	a.r.X[2] = code + 4
	want := a.then(api.StepDone, x, a.next(), fetched(fetched()...)...)
	g := copyOf(a.m)
	g.put(codeFrame*64+4, 4)
	want.m = g.Mem
	a.check(t, "a store over the next", want)
	a.m, a.r = want.m, want.r
	r = a.next()
	r.X[1] = 4
	a.check(t, "what was stored", a.then(api.StepDone, api.Insn{Op: api.OpMove, D: 1, Imm: 4}, r, fetched()...))
}

// trapped are the registers behind an exception.
func (a asked) trapped(esr, far uint64) api.Regs {
	a.r.ELR, a.r.ESR, a.r.FAR, a.r.PC = a.r.PC, esr, far, a.r.VBAR
	return a.r
}

// P15.2 (1): PC is no multiple of 4: a trap, wherever that is; nothing is translated, nothing is dropped.
func TestPCAlign(t *testing.T) {
	for _, from := range []uint64{0, 4, data, gap, last + 60, 1 << 18, 1 << 63, 1<<64 - 4} {
		for more := range uint64(3) {
			for _, a := range []asked{ask(api.Insn{Op: api.OpMove}), askUp(api.Insn{Op: api.OpMove})} {
				a.r.PC = from + more + 1
				a.l[1].Entries = []api.Entry{{Kind: api.EntMid, All: true}}
				a.pick = api.Pick{Use: true, Mids: true}
				a.check(t, "PC", a.then(api.StepTrap, api.Insn{}, a.trapped(1<<24, a.r.PC)))
			}
		}
	}
}

// syndrome is what P8.1 says of a fault of stage 1.
func syndrome(f api.Fault) uint64 {
	return uint64(f.Kind) | uint64(f.Stage)<<3 | uint64(f.Level)<<5 | uint64(f.Page)<<8
}

var faultBeyond = api.Fault{Kind: api.FaultTrans, Stage: 1, Page: api.MaxPage}

// trap is what is told of a trap by stage 1.
func (a asked) trap(x api.Insn, f api.Fault, far uint64, seen ...int) told {
	want := a.then(api.StepTrap, x, a.trapped(syndrome(f), far), seen...)
	want.o.Fault = f
	return want
}

// P15.1, P15.2: what is beyond all pages is a fault of stage 1, be that on or not.
func TestBeyond(t *testing.T) {
	for _, pc := range []uint64{1 << 18, 1<<18 + 64, 1 << 32, 1<<32 + 4, 1 << 63, 1<<64 - 4} {
		for _, a := range []asked{ask(api.Insn{Op: api.OpMove}), askUp(api.Insn{Op: api.OpMove})} {
			a.r.PC, a.pick.Use = pc, true
			a.check(t, "PC", a.trap(api.Insn{}, faultBeyond, pc))
		}
	}
	for m := range 4 {
		for _, op := range []int{api.OpLoad, api.OpStore} {
			for _, addr := range []uint64{1 << 18, 1<<18 + 64, 1 << 32, 1<<32 + 8, 1 << 63, 1<<64 - 8} {
				for _, imm := range []int{0, 8, -8, 2040, -2048} {
					x := api.Insn{Op: op, D: 5, N: 2, M: m, Imm: imm}
					a, b := ask(x), askUp(x)
					a.r.X[2], b.r.X[2] = addr-uint64(imm), addr-uint64(imm)
					a.check(t, "a place", a.trap(x, faultBeyond, addr, fetched()...))
					b.check(t, "a place", b.trap(x, faultBeyond, addr, fetchedUp()...))
				}
			}
		}
	}
}

// P15.2 (2): a place that is no multiple of the size: a trap ahead of all that may become of it there.
func TestMoveAlign(t *testing.T) {
	for m := range 4 {
		size := uint64(1) << m
		for _, op := range []int{api.OpLoad, api.OpStore} {
			for _, from := range []uint64{data, still, gap, huge, last, 1 << 18, 1<<64 - 64} {
				for more := range size {
					x := api.Insn{Op: op, D: 5, N: 2, M: m, Imm: -9}
					a := ask(x)
					a.r.X[2] = from + more + 9
					if more > 0 {
						a.check(t, "no multiple", a.then(api.StepTrap, x, a.trapped(1<<24, from+more), fetched()...))
					} else if got := a.call(); got.r.ESR == 1<<24 {
						t.Errorf("%d, %#x: %+v", m, from, got.o)
					}
				}
			}
		}
	}
}

// P15.2 (1): a word that is no instruction's: a trap, and PC; what was translated was seen.
func TestNoInsn(t *testing.T) {
	for _, w := range []uint32{0, 1, 0x07ffffff, 17 << 27, 31 << 27, math.MaxUint32, 7<<27 | 4<<18, 8<<27 | 7<<18, 11<<27 | 6, 12<<27 | 0xfff, 13<<27 | 1, 13<<27 | 2, 13<<27 | 6} {
		if _, e := insn.Of(w); e != api.ErrBad {
			t.Fatalf("%#x is an instruction", w)
		}
		for _, from := range []int{0, 4, 56, 60} {
			a := ask()
			g := copyOf(a.m)
			g.place(codeFrame*64+from, w)
			a.m, a.r.PC = g.Mem, uint64(from)
			a.check(t, "none", a.then(api.StepTrap, api.Insn{}, a.trapped(2<<24, a.r.PC), fetched()...))
			b := askUp()
			b.m, b.r.PC = g.Mem, uint64(upCode+from)
			b.check(t, "none", b.then(api.StepTrap, api.Insn{}, b.trapped(2<<24, b.r.PC), fetchedUp()...))
		}
	}
}

// P15.2 (1): four bytes from each place of a page on, also of the last page's end.
func TestFetchPlaces(t *testing.T) {
	for at := 0; at < 64; at += 4 {
		x := api.Insn{Op: api.OpMove, D: 1, Imm: at}
		w, _ := insn.Word(x)
		for _, p := range []struct {
			from, frame int
			way         []int
		}{{code, codeFrame, low}, {data, dataFrame, low}, {last, lastFrame, high}} {
			a := ask()
			g := copyOf(a.m)
			for i := range 64 {
				g.put(p.frame*64+i, 255)
			}
			g.place(p.frame*64+at, w)
			a.m, a.r.PC = g.Mem, uint64(p.from+at)
			r := a.next()
			r.X[1] = uint64(at)
			a.check(t, "fetch", a.then(api.StepDone, x, r, append(slices.Clone(p.way), p.frame)...))
		}
	}
}

// P15.2 (2, 3): Imm counts by instructions, from the next one on; PC wraps round.
func TestJumps(t *testing.T) {
	for _, imm := range []int{0, 1, 3, 2047, -1, -2, -3, -2048} {
		for _, n := range []uint64{0, 1, 2, 1 << 63, 1 << 32, ^uint64(0)} {
			for k := range 8 {
				x := api.Insn{Op: api.OpZero, D: 7 - k, N: k, M: 5, Imm: imm}
				a := ask(x)
				a.r.X[k] = n
				r := a.next()
				if n == 0 {
					r.PC += uint64(4 * imm)
				}
				a.check(t, "if it is 0", a.then(api.StepDone, x, r, fetched()...))
				x.Op = api.OpJump
				a = ask(x)
				a.r.X[k] = n
				r = a.next()
				r.PC += uint64(4 * imm)
				a.check(t, "jump", a.then(api.StepDone, x, r, fetched()...))
			}
		}
	}
}

// P15.2 (2): system registers are read and written by their numbers; what is written counts from the next step on.
func TestSystem(t *testing.T) {
	names := []func(r *api.Regs) *uint64{
		func(r *api.Regs) *uint64 { return &r.TTBR }, func(r *api.Regs) *uint64 { return &r.SCTLR }, func(r *api.Regs) *uint64 { return &r.VBAR },
		func(r *api.Regs) *uint64 { return &r.ELR }, func(r *api.Regs) *uint64 { return &r.ESR }, func(r *api.Regs) *uint64 { return &r.FAR },
	}
	for k, name := range names {
		for i := range 8 {
			x := api.Insn{Op: api.OpRead, D: i, N: 7 - i, M: 7, Imm: k}
			a := ask(x)
			r := a.next()
			r.X[i] = *name(&a.r)
			a.check(t, "read", a.then(api.StepDone, x, r, fetched()...))
			x = api.Insn{Op: api.OpWrite, D: 7 - i, N: i, M: 7, Imm: k}
			a = ask(x)
			r = a.next()
			*name(&r) = a.r.X[i]
			a.check(t, "write", a.then(api.StepDone, x, r, fetched()...))
		}
	}
	x := api.Insn{Op: api.OpWrite, N: 1, Imm: api.SysSCTLR}
	a := ask(x)
	a.r.X[1], a.r.TTBR = 1, 8<<12
	r := a.next()
	r.SCTLR = 1
	a.check(t, "stage 1 is on", a.then(api.StepDone, x, r, fetched()...))
	a.r = r
	f := api.Fault{Kind: api.FaultTrans, Stage: 1}
	a.check(t, "and counts", a.trap(api.Insn{}, f, 4, upWay[:5]...))
}

// P15.2 (2, 3): a call goes on to the next instruction; the way back goes where ELR says, and no further.
func TestCallAndBack(t *testing.T) {
	for _, imm := range []int{0, 1, -1, 2047, -2048} {
		x := api.Insn{Op: api.OpCall, D: 1, N: 2, M: 3, Imm: imm}
		a := ask(x)
		a.check(t, "call", a.then(api.StepCall, x, a.next(), fetched()...))
		x.Op = api.OpBack
		for _, elr := range []uint64{0, 1, 400, 1<<64 - 1} {
			a = ask(x)
			a.r.ELR = elr
			r := a.r
			r.PC = elr
			a.check(t, "back", a.then(api.StepDone, x, r, fetched()...))
		}
	}
}

// abort is what is told of an abort.
func (a asked) abort(x api.Insn, f api.Fault, seen ...int) told {
	want := a.then(api.StepAbort, x, a.r, seen...)
	want.o.Fault = f
	return want
}

func fault2(kind, level, page int) api.Fault {
	return api.Fault{Kind: kind, Stage: 2, Level: level, Page: page}
}

// P15.2: a fault of stage 2 is an abort, wherever it comes: registers and memory stay.
func TestAborts(t *testing.T) {
	for _, c := range []struct {
		from int
		acc  string
		f    api.Fault
		seen int
	}{
		{still, "wx", fault2(api.FaultPerm, 3, 2), 4}, {inert, "x", fault2(api.FaultPerm, 3, 3), 4}, {young, "rwx", fault2(api.FaultFlag, 3, 4), 4},
		{gap, "rwx", fault2(api.FaultTrans, 3, 5), 4}, {huge, "rwx", fault2(api.FaultSize, 3, 6), 4},
		{0o20 * 64, "rwx", fault2(api.FaultTrans, 2, 0o20), 3}, {0o100 * 64, "rwx", fault2(api.FaultTrans, 1, 0o100), 2}, {0o1000 * 64, "rwx", fault2(api.FaultTrans, 0, 0o1000), 1},
	} {
		for _, acc := range c.acc {
			a, x, seen := ask(), api.Insn{}, low[:c.seen]
			if acc == 'x' {
				a.r.PC = uint64(c.from + 60)
			} else {
				x = api.Insn{Op: map[rune]int{'r': api.OpLoad, 'w': api.OpStore}[acc], D: 3, N: 4, M: 2, Imm: 8}
				a = ask(x)
				a.r.X[4] = uint64(c.from)
				seen = fetched(seen...)
			}
			a.check(t, fmt.Sprint("abort ", c, acc), a.abort(x, c.f, seen...))
		}
	}
	a := ask(api.Insn{Op: api.OpMove})
	for _, frame := range []int{houseFrames, houseFrames + 1, api.MaxPage} {
		a.two.Frame = frame
		a.check(t, "stage 2 beyond memory", a.abort(api.Insn{}, fault2(api.FaultSize, 0, 0)))
	}
}

// P15.2: with stage 1: what both let be is done, what stage 1 lacks is a trap, what stage 2 lacks an abort.
func TestUpstairs(t *testing.T) {
	load := api.Insn{Op: api.OpLoad, D: 3, N: 4, M: 1}
	store := api.Insn{Op: api.OpStore, D: 3, N: 4, M: 1}
	a := askUp(load)
	a.m = copyOf(a.m).number().Mem
	a.r.X[4] = upData + 2
	r := a.next()
	r.X[3], _ = mem.Read(a.m, dataFrame*64+2, 2)
	a.check(t, "load", a.then(api.StepDone, load, r, fetchedUp(slices.Concat(upWay, low, []int{dataFrame})...)...))
	a = askUp(store)
	a.r.X[4] = upData + 62
	want := a.then(api.StepDone, store, a.next(), fetchedUp(slices.Concat(upWay, low, []int{dataFrame})...)...)
	want.m, _ = mem.Write(a.m, dataFrame*64+62, 2, a.r.X[3])
	a.check(t, "store", want)
	for _, c := range []struct {
		x        api.Insn
		from     int
		stage    int
		kind     int
		page     int
		more     []int
		walkMore int
	}{
		{load, upGap, 1, api.FaultTrans, up + 5, nil, 20}, {store, upGap, 1, api.FaultTrans, up + 5, nil, 20}, {load, upYoung, 1, api.FaultFlag, up + 4, nil, 20},
		{store, upRead, 1, api.FaultPerm, up + 3, nil, 20}, {store, upCode, 1, api.FaultPerm, up, nil, 20},
		{store, upStill, 2, api.FaultPerm, 2, low, 20}, {load, upAbyss, 2, api.FaultTrans, 5, low, 20}, {store, upAbyss, 2, api.FaultTrans, 5, low, 20},
		{load, upOthers, 1, api.FaultTrans, 0o7000, nil, 5},
	} {
		a := askUp(c.x)
		a.r.X[4] = uint64(c.from + 4)
		f := api.Fault{Kind: c.kind, Stage: c.stage, Level: 3, Page: c.page}
		if c.walkMore == 5 {
			f.Level = 0
		}
		seen := fetchedUp(slices.Concat(upWay[:c.walkMore], c.more)...)
		if c.stage == 1 {
			a.check(t, "trap", a.trap(c.x, f, uint64(c.from+4), seen...))
		} else {
			a.check(t, "abort", a.abort(c.x, f, seen...))
		}
	}
}

// P15.2: a fetch by stage 1: traps tell of its faults, and where PC was; stage 2's faults of its tables are aborts.
func TestFetchUpstairs(t *testing.T) {
	for _, c := range []struct {
		from, kind int
	}{{upData, api.FaultPerm}, {upStill, api.FaultPerm}, {upRead, api.FaultPerm}, {upYoung, api.FaultFlag}, {upGap, api.FaultTrans}} {
		a := askUp()
		a.r.PC = uint64(c.from + 8)
		a.check(t, "trap", a.trap(api.Insn{}, api.Fault{Kind: c.kind, Stage: 1, Level: 3, Page: c.from / 64}, a.r.PC, upWay...))
	}
	a := askUp()
	a.r.PC = upAbyss
	a.check(t, "abort", a.abort(api.Insn{}, fault2(api.FaultTrans, 3, 5), append(slices.Clone(upWay), low...)...))
	a = askUp(api.Insn{Op: api.OpMove})
	a.r.TTBR = 5 << 12
	f := fault2(api.FaultTrans, 3, 5)
	f.Walk = true
	a.check(t, "a table that is not there", a.abort(api.Insn{}, f, low...))
	for _, ttbr := range []uint64{0, 1, 1 << 24, 2, 1 << 63} {
		// What is no root's word, is one of frame 0 and tag 0: there is code, which is no table here.
		a.r.TTBR = ttbr
		if got := a.call(); got.o.Kind == api.StepAbort || !slices.Equal(got.o.Seen[:5], fetched()) {
			t.Errorf("%#x: %+v", ttbr, got.o)
		}
	}
}

func midEntry(page, frame int, letters string) api.Entry {
	return api.Entry{Kind: api.EntMid, VMID: vmid, All: true, Page: page, Frame: frame, Attr: attr(letters)}
}

func wholeEntry(page, frame, mid int, letters string) api.Entry {
	a := attr(letters)
	return api.Entry{Kind: api.EntWhole, VMID: vmid, ASID: asid, All: !a.NG, Page: page, Frame: frame, Mid: mid, Attr: a}
}

// withOwn is what is told with other entries of the one who steps.
func (b told) withOwn(cpu int, l ...api.Entry) told {
	b.l = slices.Clone(b.l)
	b.l[cpu].Entries = l
	return b
}

// P15.2: the one TLB that is asked and filled is that of the one who steps; also ahead of a trap, and of an abort.
func TestOwnTLB(t *testing.T) {
	load := api.Insn{Op: api.OpLoad, D: 3, N: 4}
	for cpu := range 3 {
		a := ask(load)
		a.r.X[4] = data + 7
		a.cpu, a.pick.Mids, a.pick.CPU = cpu, true, 2-cpu
		r := a.next()
		r.X[3] = 0
		want := a.then(api.StepDone, load, r, fetched(append(slices.Clone(low), dataFrame)...)...)
		want = want.withOwn(cpu, midEntry(0, codeFrame, "rwxa"), midEntry(1, dataFrame, "rwxa"))
		a.check(t, "filled", want)
		a.l, a.pick.Use = want.l, true
		a.check(t, "asked", told{m: a.m, r: r, l: a.l, o: api.Obs{CPU: cpu, Insn: load, Seen: []int{codeFrame, dataFrame}, Regs: r}})
		a.cpu = (cpu + 1) % 3
		want = a.then(api.StepDone, load, r, fetched(append(slices.Clone(low), dataFrame)...)...)
		a.check(t, "another's", want.withOwn(a.cpu, midEntry(0, codeFrame, "rwxa"), midEntry(1, dataFrame, "rwxa")))
	}
	a := askUp(load)
	a.r.X[4], a.pick.Fill = upGap, true
	f := api.Fault{Kind: api.FaultTrans, Stage: 1, Level: 3, Page: up + 5}
	a.check(t, "ahead of a trap", a.trap(load, f, upGap, fetchedUp(upWay...)...).withOwn(1, wholeEntry(up, codeFrame, 0, "rxa")))
	a.r.X[4] = upAbyss
	a.check(t, "ahead of an abort", a.abort(load, fault2(api.FaultTrans, 3, 5), fetchedUp(slices.Concat(upWay, low)...)...).withOwn(1, wholeEntry(up, codeFrame, 0, "rxa")))
	a.r.X[4] = upData
	r := a.next()
	r.X[3] = 0
	both := []api.Entry{wholeEntry(up, codeFrame, 0, "rxa"), wholeEntry(up+1, dataFrame, 1, "rwan")}
	a.check(t, "two", a.then(api.StepDone, load, r, fetchedUp(slices.Concat(upWay, low, []int{dataFrame})...)...).withOwn(1, both...))
	a.l[1].Entries, a.pick.Use = both, true
	a.check(t, "nothing is read", a.then(api.StepDone, load, r, codeFrame, dataFrame))
}

// P15.2: what is remembered is believed: of the fetch, and of what is stored.
func TestBelieved(t *testing.T) {
	store := api.Insn{Op: api.OpStore, D: 3, N: 4, M: 3}
	a := askUp(store)
	a.l[1].Entries = []api.Entry{wholeEntry(up+7, codeFrame, 0, "x"), wholeEntry(up+5, lastFrame, 2, "wn")}
	a.r.PC, a.r.X[4], a.pick.Use = (up+7)*64, upGap+56, true
	want := a.then(api.StepDone, store, a.next(), codeFrame, lastFrame)
	want.m, _ = mem.Write(a.m, lastFrame*64+56, 8, a.r.X[3])
	a.check(t, "believed", want)
}

// P15.2: an entry is dropped at the first address alone, whether there is such a place then or not.
func TestDrop(t *testing.T) {
	load := api.Insn{Op: api.OpLoad, D: 3, N: 4}
	l := []api.Entry{midEntry(0, codeFrame, "rwxa"), midEntry(1, lastFrame, "r"), midEntry(2, dataFrame, "r")}
	for _, c := range []struct {
		drop int
		seen []int
		left []api.Entry
	}{
		{0, fetched(lastFrame), l[1:]}, {1, []int{codeFrame, 0, 1, 2, 3, dataFrame}, []api.Entry{l[0], l[2]}}, {2, []int{codeFrame, lastFrame}, l[:2]},
		{3, []int{codeFrame, lastFrame}, l}, {-1, []int{codeFrame, lastFrame}, l}, {math.MinInt, []int{codeFrame, lastFrame}, l}, {math.MaxInt, []int{codeFrame, lastFrame}, l}, {1 << 32, []int{codeFrame, lastFrame}, l},
	} {
		a := ask(load)
		a.r.X[4] = data
		a.l[1].Entries = l
		a.l[0].Entries, a.l[2].Entries = l, l
		a.pick.Use, a.pick.Drop = true, c.drop
		r := a.next()
		r.X[3] = 0
		a.check(t, fmt.Sprint("drop ", c.drop), a.then(api.StepDone, load, r, c.seen...).withOwn(1, c.left...))
	}
	// What the first address filled is not dropped at the second.
	for drop := range 3 {
		a := ask(load)
		a.r.X[4] = data
		a.pick.Mids, a.pick.Drop = true, drop
		r := a.next()
		r.X[3] = 0
		a.check(t, "filled", a.then(api.StepDone, load, r, fetched(append(slices.Clone(low), dataFrame)...)...).withOwn(1, midEntry(0, codeFrame, "rwxa"), midEntry(1, dataFrame, "rwxa")))
	}
	// Where there is no address, nothing is dropped.
	a := ask()
	a.l[1].Entries, a.pick.Drop, a.r.PC = l, 0, 1<<18
	a.check(t, "no page", a.trap(api.Insn{}, faultBeyond, 1<<18))
	// An abort of the fetch drops.
	a.r.PC = gap
	a.check(t, "abort", a.abort(api.Insn{}, fault2(api.FaultTrans, 3, 5), low...).withOwn(1, l[1:]...))
}

// P15.2 (2): what is to be forgotten: of stage 2's machine, by the register's bits; it takes nothing away yet.
func TestInval(t *testing.T) {
	entry := wholeEntry(up, codeFrame, 0, "rxan")
	old := api.Inval{Kind: api.InvAll}
	for kind := api.InvStage; kind <= api.InvPage; kind++ {
		for _, v := range []uint64{0, 0o1230, asid<<48 | up, 15<<48 | 4095, ^uint64(0), 1 << 52, 1<<47 | 1<<12, 0xfff0fffffffff000} {
			for n := range 8 {
				x := api.Insn{Op: api.OpInval, D: 7 - n, N: n, M: 7, Imm: kind}
				a := ask(x)
				a.r.X[n], a.two.Tag = v, 15-n
				for i := range a.l {
					a.l[i] = api.TLB{Entries: []api.Entry{entry}, Due: []api.Inval{old}}
				}
				want := a.then(api.StepDone, x, a.next(), fetched()...)
				want.l = slices.Clone(a.l)
				want.l[1].Due = []api.Inval{old, {Kind: kind, VMID: 15 - n, ASID: int(v >> 48 & 15), Page: int(v & 4095)}}
				a.check(t, "later", want)
			}
		}
	}
}

// dues are so many, each of an address space of its own.
func dues(n int) (l []api.Inval) {
	for i := range n {
		l = append(l, api.Inval{Kind: api.InvASID, VMID: vmid, ASID: i})
	}
	return l
}

// asids are whole entries of the address spaces from one to the other.
func asids(from, to int) (l []api.Entry) {
	for i := from; i < to; i++ {
		l = append(l, api.Entry{Kind: api.EntWhole, VMID: vmid, ASID: i, Page: 9, Frame: 9, Attr: attr("rn")})
	}
	return l
}

// P15.2 (2): with no room for one more, all that was due is taken from all ahead of it; the new one is due then, alone.
func TestInvalFull(t *testing.T) {
	x := api.Insn{Op: api.OpInval, N: 2, Imm: api.InvASID}
	for n := range api.MaxDue + 1 {
		a := ask(x)
		a.r.X[2] = 11<<48 | 5
		a.l[0] = api.TLB{Entries: asids(0, 8), Due: dues(8)}
		a.l[1] = api.TLB{Entries: asids(4, 12), Due: dues(n)}
		a.l[2] = api.TLB{Entries: asids(6, 11), Due: dues(3)}
		want := a.then(api.StepDone, x, a.next(), fetched()...)
		added := api.Inval{Kind: api.InvASID, VMID: vmid, ASID: 11, Page: 5}
		if n < api.MaxDue {
			want.l = []api.TLB{a.l[0], {Entries: asids(4, 12), Due: append(dues(n), added)}, a.l[2]}
		} else {
			want.l = []api.TLB{{Due: dues(8)}, {Entries: asids(8, 12), Due: []api.Inval{added}}, {Entries: asids(8, 11), Due: dues(3)}}
		}
		a.check(t, fmt.Sprint(n, " due"), want)
	}
}

// P15.2 (2): a wait takes all that is due of the one who waits from all; what others have due stays so.
func TestWait(t *testing.T) {
	x := api.Insn{Op: api.OpWait, D: 1, N: 2, M: 3, Imm: -4}
	for n := range api.MaxDue + 1 {
		for cpu := range 3 {
			a := ask(x)
			a.cpu = cpu
			for i := range a.l {
				a.l[i] = api.TLB{Entries: asids(2*i, 2*i+8), Due: dues(8)}
			}
			a.l[cpu].Due = dues(n)
			want := a.then(api.StepDone, x, a.next(), fetched()...)
			want.l = nil
			for i := range a.l {
				want.l = append(want.l, api.TLB{Entries: asids(max(2*i, n), max(2*i, n, 2*i+8)), Due: dues(8)})
			}
			want.l[cpu].Due = nil
			a.check(t, fmt.Sprint(n, " due"), want)
		}
	}
}

// P15.2 (2): what a step fills of its fetch is there when its wait takes away: it goes, too.
func TestWaitOfItsOwn(t *testing.T) {
	a := askUp(api.Insn{Op: api.OpWait})
	a.pick.Fill = true
	a.l[1].Due = []api.Inval{{Kind: api.InvStage, VMID: vmid}}
	want := a.then(api.StepDone, api.Insn{Op: api.OpWait}, a.next(), fetchedUp()...)
	want.l = make([]api.TLB, 3)
	a.check(t, "its own", want)
}

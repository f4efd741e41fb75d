package step_test

import (
	"encoding/binary"
	"fmt"
	"math"
	"slices"
	"testing"

	"bulwark/access"
	"bulwark/api"
	"bulwark/inval"
	"bulwark/regs"
	"bulwark/step"
)

// slow is the document's Step, written once more: memory is bytes, an instruction is bits, a step ends by a panic of its own.
type slow struct {
	asked
	bytes []byte
	o     api.Obs
}

type ended struct{}

func slowStep(a asked) (b told) {
	s := slow{asked: a, o: api.Obs{CPU: a.cpu}}
	for _, w := range a.m.Words {
		s.bytes = binary.LittleEndian.AppendUint64(s.bytes, w)
	}
	s.l = nil
	for _, x := range a.l {
		s.l = append(s.l, api.TLB{Entries: slices.Clone(x.Entries), Due: slices.Clone(x.Due)})
	}
	s.untilEnd()
	s.o.Regs = s.r
	return told{m: s.mem(), r: s.r, l: s.l, o: s.o}
}

func (s *slow) untilEnd() {
	defer func() {
		if v := recover(); v != nil && v != (ended{}) {
			panic(v)
		}
	}()
	s.all()
}

func (s *slow) mem() (m api.Mem) {
	for i := 0; i < len(s.bytes); i += 8 {
		m.Words = append(m.Words, binary.LittleEndian.Uint64(s.bytes[i:]))
	}
	return m
}

func (s *slow) trap(esr, far uint64) {
	s.r.ELR, s.r.ESR, s.r.FAR = s.r.PC, esr, far
	s.r.PC = s.r.VBAR
	s.o.Kind = api.StepTrap
	panic(ended{})
}

// bits are those bytes of memory that the address leads to.
func (s *slow) bits(addr uint64, size int, acc int) []byte {
	if addr%uint64(size) > 0 {
		s.trap(1<<24, addr)
	}
	if addr >= 4096*64 {
		s.o.Fault = api.Fault{Kind: api.FaultTrans, Stage: 1, Level: 0, Page: 4095}
		s.trap(2|1<<3|4095<<8, addr)
	}
	frame, f, x, read, _ := access.Page(s.mem(), s.l[s.cpu], regs.One(s.r), s.two, int(addr/64), acc, s.pick)
	s.pick.Drop = -1
	s.l[s.cpu] = x
	s.o.Seen = append(s.o.Seen, read...)
	switch f.Stage {
	case 1:
		s.o.Fault = f
		s.trap(uint64(f.Kind+8*f.Stage+32*f.Level+256*f.Page), addr)
	case 2:
		s.o.Fault = f
		s.o.Kind = api.StepAbort
		panic(ended{})
	}
	s.o.Seen = append(s.o.Seen, frame)
	at := frame*64 + int(addr%64)
	return s.bytes[at : at+size]
}

func (s *slow) all() {
	w := binary.LittleEndian.Uint32(s.bits(s.r.PC, 4, api.AccExec))
	x := api.Insn{Op: int(w >> 27), D: int(w >> 24 & 7), N: int(w >> 21 & 7), M: int(w >> 18 & 7), Imm: int(int32(w<<20) >> 20)}
	kind, system := x.Op == api.OpInval, x.Op == api.OpRead || x.Op == api.OpWrite
	if x.Op < api.OpMove || x.Op > api.OpBack || w>>12&63 > 0 || (x.Op == api.OpLoad || x.Op == api.OpStore) && x.M > 3 || system && (x.Imm < 0 || x.Imm > 5) || kind && (x.Imm < 3 || x.Imm > 5) {
		s.trap(2<<24, s.r.PC)
	}
	s.o.Insn = x
	pc := s.r.PC + 4
	n, m, addr := s.r.X[x.N], s.r.X[x.M], s.r.X[x.N]+uint64(int64(x.Imm))
	names := []*uint64{&s.r.TTBR, &s.r.SCTLR, &s.r.VBAR, &s.r.ELR, &s.r.ESR, &s.r.FAR}
	switch x.Op {
	case api.OpLoad:
		var v [8]byte
		copy(v[:], s.bits(addr, 1<<x.M, api.AccRead))
		s.r.X[x.D] = binary.LittleEndian.Uint64(v[:])
	case api.OpStore:
		copy(s.bits(addr, 1<<x.M, api.AccWrite), binary.LittleEndian.AppendUint64(nil, s.r.X[x.D]))
	case api.OpJump:
		pc += uint64(int64(4 * x.Imm))
	case api.OpZero:
		if n == 0 {
			pc += uint64(int64(4 * x.Imm))
		}
	case api.OpRead:
		s.r.X[x.D] = *names[x.Imm]
	case api.OpWrite:
		*names[x.Imm] = n
	case api.OpInval:
		if len(s.l[s.cpu].Due) >= 8 {
			s.wait()
		}
		s.l[s.cpu].Due = append(s.l[s.cpu].Due, api.Inval{Kind: x.Imm, VMID: s.two.Tag, ASID: int(n >> 48 % 16), Page: int(n % 4096)})
	case api.OpWait:
		s.wait()
	case api.OpCall:
		s.o.Kind = api.StepCall
	case api.OpBack:
		pc = s.r.ELR
	default:
		s.r.X[x.D] = reckoned(x, n, m)
	}
	s.r.PC = pc
}

func (s *slow) wait() {
	due := s.l[s.cpu].Due
	for i := range s.l {
		s.l[i].Entries = slices.DeleteFunc(s.l[i].Entries, func(e api.Entry) bool {
			return slices.ContainsFunc(due, func(d api.Inval) bool {
				gone, _ := inval.Takes(d, e)
				return gone
			})
		})
	}
	s.l[s.cpu].Due = nil
}

// dice are numbers with nothing regular in them, the same ones in each run.
type dice uint64

func (d *dice) upTo(n int) int {
	*d = *d*6364136223846793005 + 1442695040888963407
	return int(uint64(*d>>33) % uint64(n))
}

// mostly is so, but once in n times.
func (d *dice) mostly(n int) bool {
	return d.upTo(n) > 0
}

func (d *dice) word() uint64 {
	return uint64(d.upTo(1<<31))<<33 ^ uint64(d.upTo(1<<31))<<10 ^ uint64(d.upTo(1<<20))
}

// addr is one of the house's, mostly, and mostly of some size's multiples.
func (d *dice) addr() uint64 {
	if !d.mostly(24) {
		return d.word()
	}
	page := []int{0, 0, 1, 1, 2, 3, 4, 5, 6, 8, 11, api.MaxPage, up, up, up + 1, up + 1, up + 2, up + 3, up + 4, up + 5, up + 6}[d.upTo(21)]
	at := d.upTo(64)
	if d.mostly(4) {
		at = at / 8 * 8
	}
	return uint64(page*64 + at)
}

// place is where instructions lie, mostly.
func (d *dice) place(a asked) uint64 {
	if !d.mostly(24) {
		return d.addr()
	}
	at := uint64(d.upTo(16) * 4)
	if a.r.SCTLR%2 == 1 {
		return upCode + at
	}
	return at
}

func (d *dice) insn() uint32 {
	x := api.Insn{Op: 1 + d.upTo(16), D: d.upTo(8), N: d.upTo(8), M: d.upTo(8), Imm: d.upTo(16) - 8}
	switch {
	case x.Op == api.OpLoad || x.Op == api.OpStore:
		x.M = d.upTo(4)
		x.Imm *= 8
	case x.Op == api.OpRead:
		x.Imm = d.upTo(6)
	case x.Op == api.OpWrite:
		// What turns all off is rare.
		x.Imm = []int{0, 1, 2, 2, 3, 3, 4, 5}[d.upTo(8)]
	case x.Op == api.OpInval:
		x.Imm = 3 + d.upTo(3)
	case !d.mostly(16):
		x.Imm = d.upTo(4096) - 2048
	}
	w := uint32(x.Op<<27 | x.D<<24 | x.N<<21 | x.M<<18 | x.Imm&4095)
	if !d.mostly(24) {
		w ^= 1 << d.upTo(32)
	}
	return w
}

func (d *dice) pick() api.Pick {
	b := d.upTo(16)
	return api.Pick{CPU: d.upTo(5) - 1, Fill: b&1 > 0, Mids: b&2 > 0, Walk: b&4 > 0, Use: b&8 > 0, Drop: d.upTo(12) - 2}
}

// machine is a house with other rights, other instructions, and other registers.
func (d *dice) machine() asked {
	a := askUp()
	g := copyOf(a.m)
	for at := 0; at < 64; at += 4 {
		g.place(codeFrame*64+at, d.insn())
		g.place(dataFrame*64+at, d.insn())
	}
	if !d.mostly(3) {
		page := d.upTo(4)
		x := leafAt(codeFrame+page, "ra")
		x.W, x.X = d.mostly(2), d.mostly(2)
		g.lay(2, 3, 3, page, x)
	}
	if !d.mostly(3) {
		// Stage 1's own tables may be written, too.
		g.lay(2, 3, 4, 11, leafAt(19, "rwa"))
		g.lay(1, 3, 19, up+4, leafAt(11, "rwa"))
	}
	if !d.mostly(6) {
		// Stage 2 lacks one of stage 1's tables, at times.
		g.lay(2, 3, 4, 8+d.upTo(4), leafAt(16, "wxa"))
	}
	a.m, a.two.Tag, a.cpu = g.Mem, d.upTo(16), d.upTo(3)
	if d.mostly(3) {
		a.r.SCTLR = 0
	}
	a.r.VBAR = d.place(a)
	for i := range a.r.X {
		a.r.X[i] = d.addr() | uint64(d.upTo(4)/3*d.upTo(16))<<48
		if !d.mostly(4) {
			a.r.X[i] = uint64(d.upTo(2)) * d.word()
		}
	}
	for i := range a.l {
		for range d.upTo(api.MaxDue + 1) {
			a.l[i].Due = append(a.l[i].Due, api.Inval{Kind: 1 + d.upTo(6), VMID: a.two.Tag, ASID: asid, Page: up + d.upTo(2)})
		}
	}
	return a
}

// many calls f with steps of many machines, each where the last one left it, but sometimes moved.
func many(seed dice, machines int, f func(d *dice, a asked)) {
	for range machines {
		a := seed.machine()
		a.r.PC = seed.place(a)
		for range 48 {
			a.pick = seed.pick()
			if !seed.mostly(6) {
				a.cpu = seed.upTo(3)
			}
			if !seed.mostly(6) {
				a.r.X[seed.upTo(8)] = seed.addr()
			}
			f(&seed, a)
			b := a.call()
			a.m, a.r, a.l = b.m, b.r, b.l
			if b.o.Kind == api.StepAbort || b.o.Kind == api.StepTrap && seed.mostly(2) {
				a.r.PC = seed.place(a)
			}
			if !seed.mostly(12) {
				a.r.SCTLR ^= 1
				a.r.TTBR = asid<<48 | 8<<12
				a.r.PC = seed.place(a)
			}
		}
	}
}

// P15.2: steps of all kinds, as the document's words say them once more.
func TestMany(t *testing.T) {
	ops, ends, faults, fills := map[int]int{}, map[string]int{}, map[string]int{}, map[int]int{}
	many(3, 1200, func(d *dice, a asked) {
		want := slowStep(a)
		a.check(t, "many", want)
		o := want.o
		if o.Kind == api.StepDone || o.Kind == api.StepCall {
			ops[o.Insn.Op]++
		} else {
			ends[fmt.Sprint(o.Kind, o.Insn.Op, o.Fault.Stage, o.Fault.Walk)]++
			faults[fmt.Sprint(o.Fault.Stage, o.Fault.Kind)]++
		}
		for _, e := range want.l[a.cpu].Entries {
			if !slices.Contains(a.l[a.cpu].Entries, e) {
				fills[e.Kind]++
			}
		}
	})
	for op := api.OpMove; op <= api.OpBack; op++ {
		if ops[op] < 100 {
			t.Errorf("Op %d: %d times", op, ops[op])
		}
	}
	// Traps of a fetch, a load and a store by stage 1, or by no stage; aborts of these, and of a fetch by a table of stage 1. Faults of no stage; of stage 1: FaultTrans, FaultFlag, FaultPerm; of stage 2 these, and FaultSize.
	if len(ends) < 6+4 || len(faults) < 1+3+4 || fills[api.EntWhole] < 100 || fills[api.EntMid] < 100 || fills[api.EntWalk] < 100 {
		t.Errorf("what was met: %v, %v, %v", ends, faults, fills)
	}
}

// P15.3: nothing is seen but what was translated, or read on the way: with other words in all other frames, all that is told is the same, but for these frames.
func TestOthersDoNotCount(t *testing.T) {
	many(5, 200, func(d *dice, a asked) {
		want := a.call()
		g := copyOf(a.m)
		for frame := range houseFrames {
			if !slices.Contains(want.o.Seen, frame) {
				for i := range 8 {
					g.Words[frame*8+i] = d.word()
					want.m.Words[frame*8+i] = g.Words[frame*8+i]
				}
			}
		}
		a.m = g.Mem
		a.check(t, "other words elsewhere", want)
	})
}

// P15.3: memory changes by a store alone, and there in the frame that was seen last alone; only its own TLB is filled, others only lose.
func TestChangesNoMore(t *testing.T) {
	stores := 0
	many(7, 600, func(d *dice, a asked) {
		got := a.call()
		for i, w := range got.m.Words {
			if w != a.m.Words[i] {
				stores++
				if o := got.o; o.Kind != api.StepDone || o.Insn.Op != api.OpStore || o.Seen[len(o.Seen)-1] != i/8 {
					t.Fatalf("%+v: word %d has changed", o, i)
				}
			}
		}
		for i, x := range got.l {
			waits := got.o.Kind == api.StepDone && (got.o.Insn.Op == api.OpWait || got.o.Insn.Op == api.OpInval && len(a.l[a.cpu].Due) == api.MaxDue)
			if i == a.cpu || slices.Equal(x.Entries, a.l[i].Entries) && slices.Equal(x.Due, a.l[i].Due) {
				continue
			}
			if !waits || len(x.Entries) >= len(a.l[i].Entries) || !slices.Equal(x.Due, a.l[i].Due) {
				t.Fatalf("%+v: TLB %d: %+v, then %+v", got.o, i, a.l[i], x)
			}
		}
	})
	if stores < 100 {
		t.Errorf("%d words were stored", stores)
	}
}

// P15.3: an instruction sees its page alone if it moves nothing; with nothing remembered what is seen is what access.Page reads, and each page's frame.
func TestSeen(t *testing.T) {
	many(11, 200, func(d *dice, a asked) {
		for i := range a.l {
			a.l[i].Entries = nil
		}
		a.pick.Mids = false
		page, _, e := step.At(a.r.PC)
		got := a.call()
		if a.r.PC%4 != 0 || e != api.OK {
			if len(got.o.Seen) > 0 {
				t.Fatalf("%+v", got.o)
			}
			return
		}
		frame, f, _, want, _ := access.Page(a.m, a.l[a.cpu], regs.One(a.r), a.two, page, api.AccExec, a.pick)
		if f == (api.Fault{}) {
			want = append(want, frame)
		}
		op := got.o.Insn.Op
		if moves := op == api.OpLoad || op == api.OpStore; !slices.Equal(got.o.Seen, want) && !(moves && len(got.o.Seen) > len(want) && slices.Equal(got.o.Seen[:len(want)], want)) {
			t.Fatalf("%+v: seen, not %v", got.o, want)
		}
	})
}

// P15.2: an abort leaves registers and memory; done again where nothing has changed it is the same.
func TestAbortsLeave(t *testing.T) {
	aborts := 0
	many(13, 200, func(d *dice, a asked) {
		got := a.call()
		if got.o.Kind != api.StepAbort {
			return
		}
		aborts++
		if got.r != a.r || !slices.Equal(got.m.Words, a.m.Words) || got.o.Fault.Stage != 2 {
			t.Fatalf("%+v: %+v", a.r, got.o)
		}
	})
	if aborts < 100 {
		t.Errorf("%d aborts", aborts)
	}
}

// R1, R2: what is handed in stays, its spare room too; what is told is new, and the same call tells the same.
func TestLeavesAll(t *testing.T) {
	many(17, 100, func(d *dice, a asked) {
		a = spare(a)
		words, row := slices.Clone(a.m.Words[:cap(a.m.Words)]), slices.Clone(a.l[:cap(a.l)])
		var parts []api.TLB
		for _, x := range row {
			parts = append(parts, api.TLB{Entries: slices.Clone(x.Entries[:cap(x.Entries)]), Due: slices.Clone(x.Due[:cap(x.Due)])})
		}
		one, two := a.call(), a.call()
		if !one.same(two) {
			t.Fatalf("%+v: %+v, then %+v", a, one, two)
		}
		kept := two
		kept.m, kept.o.Seen, kept.l = copyOf(two.m).Mem, slices.Clone(two.o.Seen), nil
		for _, x := range two.l {
			kept.l = append(kept.l, api.TLB{Entries: slices.Clone(x.Entries), Due: slices.Clone(x.Due)})
		}
		spoil(one)
		if !two.same(kept) || !a.call().same(kept) {
			t.Fatalf("%+v: two answers share memory", a)
		}
		if !slices.Equal(a.m.Words[:cap(a.m.Words)], words) || !sameTLBs(a.l[:cap(a.l)], row) {
			t.Fatalf("%+v has changed", a)
		}
		for i, x := range a.l[:cap(a.l)] {
			if !slices.Equal(x.Entries[:cap(x.Entries)], parts[i].Entries) || !slices.Equal(x.Due[:cap(x.Due)], parts[i].Due) {
				t.Fatalf("%+v has changed", a)
			}
		}
	})
}

// spare is the same with room behind each list.
func spare(a asked) asked {
	a.m.Words = append(slices.Clone(a.m.Words), 7, 7, 7, 7)[:len(a.m.Words)]
	l := make([]api.TLB, len(a.l), len(a.l)+2)
	for i, x := range a.l {
		entries := append(slices.Clone(x.Entries), api.Entry{Kind: 7}, api.Entry{Kind: 8})
		due := append(slices.Clone(x.Due), api.Inval{Kind: 7}, api.Inval{Kind: 8})
		l[i] = api.TLB{Entries: entries[:len(x.Entries)], Due: due[:len(x.Due)]}
	}
	a.l = l
	return a
}

// spoil writes over all that was told, and behind it; list by list, so that what two of them share is seen.
func spoil(a told) {
	words := a.m.Words[:cap(a.m.Words)]
	for i := range words {
		words[i] = 99
	}
	seen := a.o.Seen[:cap(a.o.Seen)]
	for i := range seen {
		seen[i] = -5
	}
	row := a.l[:cap(a.l)]
	for i, x := range row {
		entries, due := x.Entries[:cap(x.Entries)], x.Due[:cap(x.Due)]
		for k := range entries {
			entries[k] = api.Entry{Frame: -5}
		}
		for k := range due {
			due[k] = api.Inval{Page: -5}
		}
		row[i] = api.TLB{}
	}
}

// R2: no two lists of one answer share any memory: what is appended to one is not seen in another.
func TestListsApart(t *testing.T) {
	many(19, 100, func(d *dice, a asked) {
		got := a.call()
		for i := range got.l {
			rest := slices.Clone(got.l)
			for k, x := range rest {
				rest[k] = api.TLB{Entries: slices.Clone(x.Entries), Due: slices.Clone(x.Due)}
			}
			x := &got.l[i]
			_ = append(x.Entries[:0], slices.Repeat([]api.Entry{{Kind: 9}}, cap(x.Entries))...)
			_ = append(x.Due[:0], slices.Repeat([]api.Inval{{Kind: 9}}, cap(x.Due))...)
			rest[i], *x = api.TLB{}, api.TLB{}
			if !sameTLBs(got.l, rest) {
				t.Fatalf("%+v: what TLB %d has is another's, too", a, i)
			}
		}
	})
}

// R2: a nil list and an empty one are one.
func TestNilAndEmpty(t *testing.T) {
	many(23, 40, func(d *dice, a asked) {
		for i := range a.l {
			a.l[i] = api.TLB{}
		}
		b := a
		b.l = make([]api.TLB, len(a.l))
		for i := range b.l {
			b.l[i] = api.TLB{Entries: []api.Entry{}, Due: []api.Inval{}}
		}
		b.check(t, "empty lists", a.call())
	})
}

// none are numbers that are none from 0 to most; some come back among those where bits are lost.
func none(most int) []int {
	return []int{math.MinInt, math.MinInt + 1, -1 << 32, -most - 1, -8, -2, -1, most + 1, most + 2, 2*most + 2, 1 << 16, 1 << 32, 1<<32 + 1, 1 << 62, math.MaxInt - most, math.MaxInt}
}

// badTLBs are those that may not be, each by one thing; the last ones lead beyond memory, whosever they are.
func badTLBs() (l []api.TLB) {
	good := wholeEntry(up, codeFrame, 0, "rxa")
	for _, change := range []func(e *api.Entry){
		func(e *api.Entry) { e.Kind = 0 }, func(e *api.Entry) { e.Kind = 4 }, func(e *api.Entry) { e.Kind = -1 }, func(e *api.Entry) { e.VMID = 16 }, func(e *api.Entry) { e.VMID = -1 },
		func(e *api.Entry) { e.ASID = 16 }, func(e *api.Entry) { e.Page = 4096 }, func(e *api.Entry) { e.Page = -1 }, func(e *api.Entry) { e.Level = 1 }, func(e *api.Entry) { e.Soft = 1 },
		func(e *api.Entry) { e.Frame = -1 }, func(e *api.Entry) { e.Frame = 4096 }, func(e *api.Entry) { e.Frame = math.MinInt }, func(e *api.Entry) { e.Mid = 4096 }, func(e *api.Entry) { e.Kind = api.EntMid },
		func(e *api.Entry) { e.Frame = houseFrames }, func(e *api.Entry) { e.Frame, e.VMID = api.MaxPage, 9 }, func(e *api.Entry) { *e = midEntry(1, houseFrames, "") }, func(e *api.Entry) { *e = api.Entry{Kind: api.EntWalk, Level: 1, Frame: houseFrames} },
	} {
		e := good
		change(&e)
		l = append(l, api.TLB{Entries: []api.Entry{e}}, api.TLB{Entries: []api.Entry{midEntry(1, 1, "r"), midEntry(2, 2, "r"), e}})
	}
	l = append(l, api.TLB{Entries: []api.Entry{good, good}}, api.TLB{Entries: asids(0, 9)}, api.TLB{Due: dues(9)})
	for _, i := range []api.Inval{{}, {Kind: -1}, {Kind: 7}, {Kind: 1, VMID: 16}, {Kind: 1, ASID: -1}, {Kind: 1, Page: 4096}} {
		l = append(l, api.TLB{Due: []api.Inval{i}}, api.TLB{Due: append(dues(7), i)})
	}
	return l
}

// faulty are asks that are unlawful by one thing each.
func faulty() (l []asked) {
	add := func(change func(a *asked)) {
		a := askUp(api.Insn{Op: api.OpMove})
		change(&a)
		l = append(l, a)
	}
	add(func(a *asked) { a.m = api.Mem{} })
	for _, n := range []int{1, 7, 9, 15, 17, 24*8 - 1, 24*8 + 1, 8*64 + 1, 8 * 65} {
		add(func(a *asked) { a.m = api.Mem{Words: make([]uint64, n)} })
	}
	for _, x := range badTLBs() {
		for i := range 3 {
			add(func(a *asked) { a.l[i] = x })
			add(func(a *asked) { a.l[i], a.l[0].Due = x, append(a.l[0].Due, x.Due...) })
		}
	}
	for _, n := range none(2) {
		add(func(a *asked) { a.cpu = n })
	}
	for _, n := range none(4) {
		add(func(a *asked) { a.l, a.cpu = make([]api.TLB, 5), n })
	}
	add(func(a *asked) { a.l = nil })
	add(func(a *asked) { a.l, a.cpu = nil, 0 })
	add(func(a *asked) { a.l, a.cpu = []api.TLB{}, -1 })
	for _, n := range none(api.MaxPage) {
		add(func(a *asked) { a.two.Frame = n })
	}
	for _, n := range none(api.MaxTag) {
		add(func(a *asked) { a.two.Tag = n })
	}
	add(func(a *asked) { a.two.On = false })
	add(func(a *asked) { a.two = api.Root{} })
	return l
}

// P15.2, R4: ErrForm of each thing that may not be, alone and two together, also where nothing is translated; nothing beside it.
func TestForm(t *testing.T) {
	l := faulty()
	for i, a := range l {
		for _, pc := range []uint64{upCode, 0, 1, upCode + 2, 1 << 18, upGap} {
			for b := range 16 {
				a.r.PC = pc
				a.pick = api.Pick{Fill: b&1 > 0, Mids: b&2 > 0, Walk: b&4 > 0, Use: b&8 > 0, Drop: b - 2}
				a.check(t, fmt.Sprint("faulty ", i), told{e: api.ErrForm})
			}
		}
	}
	for i, a := range l {
		b := l[(i*7+3)%len(l)]
		a.l = b.l
		if b.two.On && b.two.Frame == 0 && b.two.Tag == vmid && len(b.m.Words) == houseFrames*8 && b.cpu == 1 {
			a.check(t, fmt.Sprint("more than faulty ", i), told{e: api.ErrForm})
		}
	}
}

// P15.2: the ends of what may be: any number of processors, the memory's last frame in entries, as much due as may be, whatever registers.
func TestLawfulEnds(t *testing.T) {
	x := api.Insn{Op: api.OpWait}
	for _, n := range []int{1, 2, 3, 4, 17} {
		for cpu := range n {
			a := ask(x)
			a.l, a.cpu = make([]api.TLB, n), cpu
			for i := range a.l {
				a.l[i] = api.TLB{Entries: []api.Entry{midEntry(1, lastFrame, "r")}, Due: dues(8)}
			}
			want := a.then(api.StepDone, x, a.next(), fetched()...)
			want.l = slices.Clone(a.l)
			want.l[cpu].Due = nil
			a.check(t, "processors", want)
		}
	}
	d := dice(29)
	for range 4000 {
		a := d.machine()
		a.r = api.Regs{PC: d.word(), Sys: api.Sys{TTBR: d.word(), SCTLR: d.word(), VBAR: d.word(), ELR: d.word(), ESR: d.word(), FAR: d.word()}}
		if d.mostly(2) {
			a.r.PC = d.addr() &^ 3
		}
		a.check(t, "registers", slowStep(a))
	}
}

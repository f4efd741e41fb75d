package step

import (
	"slices"

	"bulwark/access"
	"bulwark/api"
	"bulwark/mem"
	"bulwark/root"
)

// board is what addresses are translated on: memory, stage 2, and the TLBs as a script chooses.
type board struct {
	api.Mem
	crew
	two  api.Root
	pick api.Pick
}

func (b *board) mayBe() bool {
	frames, e := mem.Frames(b.Mem)
	return e == api.OK && b.mayStep(frames) && b.hasFloor()
}

// hasFloor asks root for what may stand in a root.
func (b *board) hasFloor() bool {
	_, e := root.Word(b.two)
	return e == api.OK && b.two.On
}

func (b *board) copied() board {
	x := *b
	x.Mem = api.Mem{Words: slices.Clone(b.Words)}
	x.crew = b.copiedCrew()
	return x
}

// reach tells where in memory addr lies, or why nowhere; and the frames that were read, that of addr the last one.
func (b *board) reach(one api.Root, addr uint64, acc int) (at int, f api.Fault, read []int) {
	page, in, e := At(addr)
	if e != api.OK {
		return 0, api.Fault{Kind: api.FaultTrans, Stage: 1, Page: api.MaxPage}, nil
	}
	frame, f, t, read, _ := access.Page(b.Mem, *b.own(), one, b.two, page, acc, b.pick)
	*b.own() = t
	// A step drops no more than one entry.
	b.pick.Drop = -1
	if f.Kind != api.FaultNone {
		return 0, f, read
	}
	return frame*api.PageBytes + in, api.Fault{}, append(read, frame)
}

func (b *board) read(at int, size int) uint64 {
	v, _ := mem.Read(b.Mem, at, size)
	return v
}

func (b *board) write(at int, size int, v uint64) {
	b.Mem, _ = mem.Write(b.Mem, at, size, v)
}

package root

import (
	"bulwark/api"
	"bulwark/word"
)

// Where the bits of a root's word lie.
const (
	atOn    = 0
	atFrame = 12
	atTag   = 48

	frameBits = 12
	tagBits   = 4
)

// start is a root that may be asked for its word.
type start struct {
	api.Root
}

func (s start) mayBe() bool {
	return isUpTo(s.Frame, api.MaxPage) && isUpTo(s.Tag, api.MaxTag)
}

func isUpTo(n int, most int) bool {
	return n >= 0 && n <= most
}

// word is of a start that may be: then each field may be, too, and no two have a bit in common.
func (s start) word() uint64 {
	w, _ := word.Join(
		api.Field{At: atOn, N: 1, V: s.on()},
		api.Field{At: atFrame, N: frameBits, V: uint64(s.Frame)},
		api.Field{At: atTag, N: tagBits, V: uint64(s.Tag)},
	)
	return w
}

func (s start) on() uint64 {
	if s.On {
		return 1
	}
	return 0
}

// found is the one start whose word from could be; read from so few bits, its numbers are none that may not be.
type found struct {
	start
	from uint64
}

func read(w uint64) found {
	f := found{from: w}
	f.On = f.bits(atOn, 1) == 1
	f.Frame = f.bits(atFrame, frameBits)
	f.Tag = f.bits(atTag, tagBits)
	return f
}

// bits asks for places of this file's alone, so that none may not be.
func (f found) bits(at int, n int) int {
	v, _ := word.Get(f.from, at, n)
	return int(v)
}

// whole tells whether nothing was passed over: a bit that no root has is missing from the word of what was read.
func (f found) whole() bool {
	return f.word() == f.from
}

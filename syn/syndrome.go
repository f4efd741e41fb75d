package syn

import (
	"bulwark/api"
	"bulwark/word"
)

// Where the bits of a fault's word lie.
const (
	atKind  = 0
	atStage = 3
	atLevel = 5
	atWalk  = 7
	atPage  = 8

	kindBits  = 3
	stageBits = 2
	levelBits = 2
	walkBits  = 1
	pageBits  = 12
)

const (
	lastStage = 2
	lastLevel = api.Levels - 1
)

// syndrome is a fault that may be asked for its word.
type syndrome struct {
	api.Fault
}

// mayBe asks for each number by itself: a fault of no kind may have a place, and one of no stage a level.
func (s syndrome) mayBe() bool {
	return isUpTo(s.Kind, api.FaultPerm) && isUpTo(s.Stage, lastStage) && isUpTo(s.Level, lastLevel) && isUpTo(s.Page, api.MaxPage)
}

func isUpTo(n int, most int) bool {
	return n >= 0 && n <= most
}

// word is of a syndrome that may be: then each field may be, too, and no two have a bit in common.
func (s syndrome) word() uint64 {
	w, _ := word.Join(s.fields()...)
	return w
}

func (s syndrome) fields() []api.Field {
	return []api.Field{
		{At: atKind, N: kindBits, V: uint64(s.Kind)},
		{At: atStage, N: stageBits, V: uint64(s.Stage)},
		{At: atLevel, N: levelBits, V: uint64(s.Level)},
		{At: atWalk, N: walkBits, V: s.walk()},
		{At: atPage, N: pageBits, V: uint64(s.Page)},
	}
}

func (s syndrome) walk() uint64 {
	if s.Walk {
		return 1
	}
	return 0
}

// found is the one syndrome whose word from could be: it need not be one that may be.
type found struct {
	syndrome
	from uint64
}

func read(w uint64) found {
	f := found{from: w}
	f.Kind = f.bits(atKind, kindBits)
	f.Stage = f.bits(atStage, stageBits)
	f.Level = f.bits(atLevel, levelBits)
	f.Walk = f.bits(atWalk, walkBits) == 1
	f.Page = f.bits(atPage, pageBits)
	return f
}

// bits asks for places of this file's alone, so that none may not be.
func (f found) bits(at int, n int) int {
	v, _ := word.Get(f.from, at, n)
	return int(v)
}

// whole tells whether nothing was passed over: a bit that no fault has is missing from the word of what was read.
func (f found) whole() bool {
	return f.mayBe() && f.word() == f.from
}

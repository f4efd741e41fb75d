package walk

import (
	"bulwark/api"
	"bulwark/desc"
	"bulwark/mem"
)

const wordBytes = api.PageBytes / api.Slots

// store is a memory that frames are looked for in.
type store struct {
	api.Mem
}

func (s store) mayBe() bool {
	return mem.Check(s.Mem) == api.OK
}

// has is false of all frames where the memory may not be: that one has none.
func (s store) has(frame int) bool {
	n, _ := mem.Frames(s.Mem)
	return frame >= 0 && frame < n
}

// spot is where a page is looked for: what tells its place in a table, and what a fault tells.
type spot struct {
	stage int
	level int
	page  int
}

// mayBe asks for the empty descriptor, which may stand wherever any may: so it tells of stage and level alone.
func (s spot) mayBe() bool {
	_, e := desc.Index(s.level, s.page)
	return e == api.OK && desc.Check(s.stage, s.level, api.Desc{}) == api.OK
}

func (s spot) fault(kind int) api.Fault {
	return api.Fault{Kind: kind, Stage: s.stage, Level: s.level, Page: s.page}
}

// within is the page's place in a leaf of a level that may be: each such leaf has a page at least.
func (s spot) within() int {
	n, _ := desc.Covers(s.level)
	return s.page % n
}

// table is a frame that is read as a table; it need not be there.
type table struct {
	store
	spot
	frame int
}

func tableOf(m api.Mem, stage int, level int, frame int, page int) table {
	return table{store: store{m}, spot: spot{stage: stage, level: level, page: page}, frame: frame}
}

func (t table) mayBe() bool {
	return t.store.mayBe() && t.spot.mayBe()
}

func (t table) there() bool {
	return t.has(t.frame)
}

// desc is of a table that may be and is there: then there is an index, and a word at it.
func (t table) desc() api.Desc {
	i, _ := desc.Index(t.level, t.page)
	w, _ := mem.Read(t.Mem, t.frame*api.PageBytes+i*wordBytes, wordBytes)
	d, _ := desc.Of(t.stage, t.level, w)
	return d
}

package pgt

import (
	"bulwark/api"
	"bulwark/desc"
	"bulwark/mem"
	"bulwark/walk"
)

const (
	stage     = 2
	lastLevel = api.Levels - 1
	wordBytes = api.PageBytes / api.Slots
)

func mayStand(level int, d api.Desc) bool {
	return desc.Check(stage, level, d) == api.OK
}

// covers is how many pages one descriptor of that level is for.
func covers(level int) int {
	n, _ := desc.Covers(level)
	return n
}

func tableAt(frame int) api.Desc {
	return api.Desc{Kind: api.DescTable, Frame: frame}
}

// table is a frame of a memory that is taken for a table of that level; it need not be there.
type table struct {
	api.Mem
	at    int
	level int
}

// find tells mid's descriptor; walk's errors are just those that this layer has of a memory, a page and a frame.
func (t *table) find(mid int) (api.Desc, api.Errno) {
	return walk.Table(t.Mem, stage, t.level, t.at, mid)
}

// lay writes l one behind the other, from mid's place on. It is of a table that is there, and of descriptors that may stand in it.
func (t *table) lay(mid int, l ...api.Desc) {
	i, _ := desc.Index(t.level, mid)
	for k, d := range l {
		w, _ := desc.Word(stage, t.level, d)
		t.Mem, _ = mem.Write(t.Mem, t.at*api.PageBytes+(i+k)*wordBytes, wordBytes, w)
	}
}

func (t *table) has(frame int) bool {
	n, _ := mem.Frames(t.Mem)
	return frame >= 0 && frame < n
}

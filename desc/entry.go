package desc

import "bulwark/api"

const (
	lastLevel = api.Levels - 1
	indexBits = 3 // of a page, for each level
	maxSmall  = 15
)

func isLevel(level int) bool {
	return level >= 0 && level <= lastLevel
}

func isPage(page int) bool {
	return page >= 0 && page <= api.MaxPage
}

// isSmall tells whether n has room in four bits.
func isSmall(n int) bool {
	return n >= 0 && n <= maxSmall
}

// below is how many bits of a page the levels behind this one have.
func below(level int) int {
	return indexBits * (lastLevel - level)
}

func covers(level int) int {
	return 1 << below(level)
}

// spot is where a descriptor stands.
type spot struct {
	stage int
	level int
}

func (s spot) mayBe() bool {
	return (s.stage == 1 || s.stage == 2) && isLevel(s.level)
}

// entry is a descriptor that stands somewhere.
type entry struct {
	spot
	api.Desc
}

func entryOf(stage int, level int, d api.Desc) entry {
	return entry{spot: spot{stage: stage, level: level}, Desc: d}
}

func (n entry) mayBe() bool {
	if !n.spot.mayBe() {
		return false
	}
	switch n.Kind {
	case api.DescNone:
		return n.noneMayBe()
	case api.DescTable:
		return n.tableMayBe()
	case api.DescLeaf:
		return n.leafMayBe()
	}
	return false
}

func (n entry) noneMayBe() bool {
	if n.Desc != (api.Desc{Kind: api.DescNone, Note: n.Note}) {
		return false
	}
	return n.Note == 0 || n.stage == 2 && isSmall(n.Note)
}

func (n entry) tableMayBe() bool {
	if n.Desc != (api.Desc{Kind: api.DescTable, Frame: n.Frame}) {
		return false
	}
	return n.level != lastLevel && isPage(n.Frame)
}

func (n entry) leafMayBe() bool {
	if n.level == 0 || n.Note != 0 {
		return false
	}
	return isPage(n.Frame) && n.Frame%covers(n.level) == 0 && n.attrMayBe()
}

func (n entry) attrMayBe() bool {
	if n.stage == 1 {
		return n.R && n.Soft == 0
	}
	return !n.NG && isSmall(n.Soft)
}

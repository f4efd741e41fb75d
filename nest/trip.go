package nest

import (
	"bulwark/api"
	"bulwark/desc"
	"bulwark/perm"
	"bulwark/walk"
)

const lastLevel = api.Levels - 1

// trip is an access under way by stage 1 over the floor that carries it: the intermediate page that it stands before, and its level.
type trip struct {
	floor
	one   api.Root
	page  int
	acc   int
	mid   int
	level int
}

// tripOf stands before stage 1's first table; where stage 1 is not on, before the page itself, as if a leaf of the last level had led there.
func tripOf(s floor, one api.Root, page int, acc int) trip {
	t := trip{floor: s, one: one, page: page, acc: acc, mid: page, level: lastLevel}
	if one.On {
		t.goTo(0, one.Frame)
	}
	return t
}

func (t *trip) goTo(level int, mid int) {
	t.level = level
	t.mid = mid
}

func (t *trip) mayBegin() bool {
	return t.mayCarry(t.page, t.acc) && isPage(t.one.Frame)
}

func (t *trip) end() (api.Hit, api.Fault) {
	if !t.one.On {
		return t.land()
	}
	return t.follow()
}

// follow goes on as long as tables lead to tables. No descriptor of the last level is a table: so it ends.
func (t *trip) follow() (api.Hit, api.Fault) {
	for {
		d, f := t.look()
		if isFault(f) {
			return api.Hit{}, f
		}
		switch d.Kind {
		case api.DescTable:
			t.goTo(t.level+1, d.Frame)
		case api.DescLeaf:
			return t.pass(d)
		default:
			return api.Hit{}, api.Fault{Kind: api.FaultTrans, Stage: 1, Level: t.level, Page: t.page}
		}
	}
}

// look reads no table that the floor does not let be read.
func (t *trip) look() (api.Desc, api.Fault) {
	h, f := t.reach(t.mid, api.AccRead)
	if isFault(f) {
		f.Walk = true
		return api.Desc{}, f
	}
	t.read = append(t.read, h.Frame)
	d, _ := walk.Table(t.Mem, 1, t.level, h.Frame, t.page)
	return d, api.Fault{}
}

// pass asks the leaf ahead of the floor: of what stage 1 forbids, stage 2 is not asked.
func (t *trip) pass(leaf api.Desc) (api.Hit, api.Fault) {
	f, _ := perm.Flag(leaf.Attr, t.acc, 1, t.level, t.page)
	if isFault(f) {
		return api.Hit{}, f
	}
	t.goTo(t.level, leaf.Frame+t.within())
	return t.land(leaf.Attr)
}

// within is the page's place in a leaf of the trip's level.
func (t *trip) within() int {
	n, _ := desc.Covers(t.level)
	return t.page % n
}

// land lets be what the floor and all of above do.
func (t *trip) land(above ...api.Attr) (api.Hit, api.Fault) {
	h, f := t.reach(t.mid, t.acc)
	if isFault(f) {
		return api.Hit{}, f
	}
	h.Attr = perm.Both(append(above, h.Attr)...)
	h.Level = t.level
	return h, api.Fault{}
}

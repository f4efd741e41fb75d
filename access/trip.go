package access

import (
	"bulwark/api"
	"bulwark/perm"
	"bulwark/walk"
)

const (
	lastLevel = api.Levels - 1
	indexBits = 3 // of a page, for each level
)

// trip is an access under way over the floor that carries it: by stage 1, the table that it reads next, and its level.
type trip struct {
	floor
	one   api.Root
	page  int
	acc   int
	frame int
	level int
}

func (t *trip) mayBegin() bool {
	_, e := perm.May(api.Attr{}, t.acc)
	return e == api.OK && t.mayCarry() && isUpTo(t.one.Frame, api.MaxPage) && isUpTo(t.page, api.MaxPage)
}

func (t *trip) end() (int, api.Fault) {
	if !t.one.On {
		h, f := t.land(t.page)
		return h.Frame, f
	}
	if e, ok := t.whole(t.page, t.acc); ok {
		return e.Frame, api.Fault{}
	}
	h, f := t.follow()
	if t.Fill && !isFault(f) {
		t.keepWhole(t.page, h)
	}
	return h.Frame, f
}

// follow goes on as long as tables lead to tables. No descriptor of the last level is a table: so it ends.
func (t *trip) follow() (api.Hit, api.Fault) {
	f := t.begin()
	for !isFault(f) {
		d := t.look()
		switch d.Kind {
		case api.DescTable:
			f = t.enter(t.level+1, d.Frame)
		case api.DescLeaf:
			return t.pass(d)
		default:
			f = api.Fault{Kind: api.FaultTrans, Stage: 1, Level: t.level, Page: t.page}
		}
	}
	return api.Hit{}, f
}

// begin takes what is remembered of a table as it stands: stage 2 is not asked whether it may still be read.
func (t *trip) begin() api.Fault {
	if e, ok := t.table(t.page); ok {
		t.stand(e.Level, e.Frame)
		return api.Fault{}
	}
	return t.enter(0, t.one.Frame)
}

func (t *trip) stand(level int, frame int) {
	t.level = level
	t.frame = frame
}

// enter goes to the table of that level that lies at an intermediate page, if the floor lets it be read.
func (t *trip) enter(level int, mid int) api.Fault {
	h, f := t.reach(mid, api.AccRead)
	if isFault(f) {
		f.Walk = true
		return f
	}
	t.stand(level, h.Frame)
	// The first table is known by the root: it is never remembered.
	if t.Walk && level > 0 {
		t.keepTable(t.page-t.within(level-1), level, h.Frame)
	}
	return api.Fault{}
}

// within is the page's place among those that one descriptor of that level has.
func (t *trip) within(level int) int {
	return t.page % (1 << (indexBits * (lastLevel - level)))
}

func (t *trip) look() api.Desc {
	t.note(t.frame)
	d, _ := walk.Table(t.Mem, 1, t.level, t.frame, t.page)
	return d
}

// pass asks the leaf ahead of the floor: of what stage 1 forbids, stage 2 is not asked.
func (t *trip) pass(leaf api.Desc) (api.Hit, api.Fault) {
	f, _ := perm.Flag(leaf.Attr, t.acc, 1, t.level, t.page)
	if isFault(f) {
		return api.Hit{}, f
	}
	return t.land(leaf.Frame+t.within(t.level), leaf.Attr)
}

// land lets be what the floor and all of above do.
func (t *trip) land(mid int, above ...api.Attr) (api.Hit, api.Fault) {
	h, f := t.reach(mid, t.acc)
	if isFault(f) {
		return api.Hit{}, f
	}
	h.Attr = perm.Both(append(above, h.Attr)...)
	return h, api.Fault{}
}

package walk

import "bulwark/api"

// trip is a walk under way: the table that it stands before, and the frames of those behind it.
type trip struct {
	table
	read []int
}

func (t *trip) mayBegin() bool {
	return t.mayBe() && t.frame >= 0 && t.frame <= api.MaxPage
}

// end goes on as long as tables lead to tables. No descriptor of the last level is a table: so it ends.
func (t *trip) end() (api.Hit, api.Fault) {
	for t.there() {
		d := t.look()
		switch d.Kind {
		case api.DescTable:
			t.goTo(d.Frame)
		case api.DescLeaf:
			return t.arrive(d)
		default:
			return api.Hit{}, t.fault(api.FaultTrans)
		}
	}
	return api.Hit{}, t.fault(api.FaultSize)
}

func (t *trip) look() api.Desc {
	t.read = append(t.read, t.frame)
	return t.desc()
}

func (t *trip) goTo(frame int) {
	t.level++
	t.frame = frame
}

// arrive asks for the page's own frame alone: of a leaf's others some may lie beyond memory.
func (t *trip) arrive(leaf api.Desc) (api.Hit, api.Fault) {
	frame := leaf.Frame + t.within()
	if !t.has(frame) {
		return api.Hit{}, t.fault(api.FaultSize)
	}
	return api.Hit{Frame: frame, Attr: leaf.Attr, Level: t.level}, api.Fault{}
}

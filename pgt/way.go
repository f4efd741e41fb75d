package pgt

import (
	"slices"

	"bulwark/api"
	"bulwark/mem"
)

// way is a walk of mid: the table that it got to, what stands there for mid, and the frames of all tables that it asked.
type way struct {
	table
	api.Desc
	mid  int
	path []int
}

// wayOf goes on as long as tables lead to tables, and no further than to the level deepest. No descriptor of the last level is a table: so it ends.
func wayOf(m api.Mem, root int, mid int, deepest int) (way, api.Errno) {
	w := way{table: table{Mem: m, at: root}, mid: mid}
	e := w.look()
	for e == api.OK && w.Kind == api.DescTable && w.level < deepest {
		w.enter(w.Frame)
		e = w.look()
	}
	return w, e
}

func (w *way) look() (e api.Errno) {
	w.path = append(w.path, w.at)
	w.Desc, e = w.find(w.mid)
	return e
}

func (w *way) enter(frame int) {
	w.at = frame
	w.level++
}

func (w *way) stand(d api.Desc) {
	w.lay(w.mid, d)
}

// mayTake ends soon, however long free is: no more frames than memory has are there and none twice.
func (w *way) mayTake(free []int) bool {
	used := slices.Clone(w.path)
	for _, f := range free {
		if !w.has(f) || slices.Contains(used, f) {
			return false
		}
		used = append(used, f)
	}
	return true
}

// isOpen tells whether something may be mapped where the way ends. Above the last level a note is of more pages than one: it stays.
func (w *way) isOpen() bool {
	return w.Kind == api.DescNone && (w.Note == 0 || w.level == lastLevel)
}

func (w *way) isPage() bool {
	return w.Kind == api.DescLeaf && w.level == lastLevel
}

func (w *way) isBlock() bool {
	return w.Kind == api.DescLeaf && w.level < lastLevel
}

// lacks is how many tables there are too few for a page of its own.
func (w *way) lacks() int {
	return lastLevel - w.level
}

// extend makes tables of l, each one's own the next.
func (w *way) extend(l ...int) {
	w.Mem, _ = mem.Zero(w.Mem, l...)
	for _, f := range l {
		w.stand(tableAt(f))
		w.enter(f)
	}
}

// split makes a table of that frame, and of the block at the way's end what stands in it.
func (w *way) split(frame int) {
	low := table{Mem: w.Mem, at: frame, level: w.level + 1}
	low.lay(0, w.parts()...)
	w.Mem = low.Mem
	w.stand(tableAt(frame))
}

func (w *way) parts() []api.Desc {
	l := make([]api.Desc, api.Slots)
	for i := range l {
		l[i] = w.Desc
		l[i].Frame += i * covers(w.level+1)
	}
	return l
}

// maps are those of all pages that the way's descriptor is for; mid is the first of them.
func (w *way) maps() (l []api.Map) {
	if w.Kind != api.DescLeaf {
		return nil
	}
	for i := range covers(w.level) {
		l = append(l, api.Map{Mid: w.mid + i, Frame: w.Frame + i})
	}
	return l
}

package tlb

import (
	"bulwark/api"
	"bulwark/perm"
)

const (
	lastLevel = api.Levels - 1
	indexBits = 3 // of a page, for each level
)

func isUpTo(n int, most int) bool {
	return n >= 0 && n <= most
}

// record is an entry that is looked at; it need not be one that may be.
type record struct {
	api.Entry
}

func (r record) mayBe() bool {
	return r.numbersMayBe() && r.kindMayBe()
}

func (r record) numbersMayBe() bool {
	return isUpTo(r.VMID, api.MaxTag) && isUpTo(r.ASID, api.MaxTag) &&
		isUpTo(r.Page, api.MaxPage) && isUpTo(r.Frame, api.MaxPage) && isUpTo(r.Mid, api.MaxPage) && r.Soft == 0
}

// kindMayBe asks for what is each kind's own.
func (r record) kindMayBe() bool {
	switch r.Kind {
	case api.EntWhole:
		return r.Level == 0
	case api.EntMid:
		return r.midMayBe()
	case api.EntWalk:
		return r.walkMayBe()
	}
	return false
}

// midMayBe lays an entry of what a kind lets be chosen: nothing else is in one that may be.
func (r record) midMayBe() bool {
	return !r.NG && r.Entry == api.Entry{Kind: api.EntMid, VMID: r.VMID, All: true, Page: r.Page, Frame: r.Frame, Attr: r.Attr}
}

func (r record) walkMayBe() bool {
	// The level is asked first: firstOf is of those that there are.
	return r.Level >= 1 && r.Level <= lastLevel &&
		r.Entry == api.Entry{Kind: api.EntWalk, VMID: r.VMID, ASID: r.ASID, All: r.All, Page: r.firstOf(r.Page), Level: r.Level, Frame: r.Frame}
}

// firstOf is the first one of the pages that a record has which has this one.
func (r record) firstOf(page int) int {
	if r.Kind != api.EntWalk {
		return page
	}
	return page &^ (1<<(indexBits*(api.Levels-r.Level)) - 1)
}

// isOf is of a record that may be.
func (r record) isOf(p place) bool {
	return r.VMID == p.vmid && (r.All || r.ASID == p.asid) && r.Page == r.firstOf(p.page)
}

// fits is of an ask that may be.
func (r record) fits(a ask) bool {
	may, _ := perm.May(r.Attr, a.acc)
	return r.Kind == a.kind && r.isOf(a.place) && may
}

// place is where an entry is looked for.
type place struct {
	vmid int
	asid int
	page int
}

func (p place) mayBe() bool {
	return isUpTo(p.vmid, api.MaxTag) && isUpTo(p.asid, api.MaxTag) && isUpTo(p.page, api.MaxPage)
}

// ask is for an access to a place.
type ask struct {
	place
	kind int
	acc  int
}

func (a ask) mayBe() bool {
	_, e := perm.May(api.Attr{}, a.acc)
	return e == api.OK && a.place.mayBe()
}

// due is something that is still to be taken away.
type due struct {
	api.Inval
}

func (d due) mayBe() bool {
	return d.Kind >= api.InvAll && d.Kind <= api.InvMid &&
		isUpTo(d.VMID, api.MaxTag) && isUpTo(d.ASID, api.MaxTag) && isUpTo(d.Page, api.MaxPage)
}

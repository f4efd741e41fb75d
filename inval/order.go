package inval

import (
	"bulwark/api"
	"bulwark/tlb"
)

// mayBe asks by a TLB that has nothing else: tlb knows what may be due.
func mayBe(l ...api.Inval) bool {
	// One at a time: a row may be longer than what can be due.
	for i := range l {
		if tlb.Check(api.TLB{Due: l[i : i+1]}) != api.OK {
			return false
		}
	}
	return true
}

// order is an Inval that may be.
type order struct {
	api.Inval
}

// takes is of a record that may be.
func (o order) takes(r record) bool {
	return o.Kind == api.InvAll || o.VMID == r.VMID && o.takesOfMachine(r)
}

// takesOfMachine is of a record of the order's machine.
func (o order) takesOfMachine(r record) bool {
	switch o.Kind {
	case api.InvVM:
		return true
	case api.InvStage:
		return r.isOfStage()
	case api.InvASID:
		return r.isOfStage() && !r.All && r.ASID == o.ASID
	case api.InvPage:
		return r.isWholeOf(o.ASID, o.Page) || r.isTableOf(o.VMID, o.ASID, o.Page)
	case api.InvMid:
		return r.Kind == api.EntMid && r.Page == o.Page
	}
	return false
}

// record is an entry that is looked at; it need not be one that may be.
type record struct {
	api.Entry
}

// alone is a TLB that has the record and nothing else, to ask tlb of it.
func (r record) alone() api.TLB {
	return api.TLB{Entries: []api.Entry{r.Entry}}
}

func (r record) mayBe() bool {
	return tlb.Check(r.alone()) == api.OK
}

// isTaken is of a record and a row that may be.
func (r record) isTaken(l ...api.Inval) bool {
	for _, i := range l {
		if (order{i}).takes(r) {
			return true
		}
	}
	return false
}

// isOfStage asks whether the record came of stage 1, be it together with stage 2.
func (r record) isOfStage() bool {
	return r.Kind == api.EntWhole || r.Kind == api.EntWalk
}

// isWholeOf does not ask tlb.Whole: that passes over entries by what may be done.
func (r record) isWholeOf(asid int, page int) bool {
	return r.Kind == api.EntWhole && r.Page == page && (r.All || r.ASID == asid)
}

func (r record) isTableOf(vmid int, asid int, page int) bool {
	_, e := tlb.Walk(r.alone(), vmid, asid, page)
	return e == api.OK
}

package access

import (
	"slices"

	"bulwark/api"
	"bulwark/tlb"
)

func isUpTo(n int, most int) bool {
	return n >= 0 && n <= most
}

// cache is a TLB that is asked and filled for one who accesses, as a script chooses.
type cache struct {
	api.TLB
	api.Pick
	vmid int
	asid int
}

func (c *cache) mayBe() bool {
	return tlb.Check(c.TLB) == api.OK && isUpTo(c.vmid, api.MaxTag) && isUpTo(c.asid, api.MaxTag)
}

// isWithin asks for the frames of all entries, of other machines', too.
func (c *cache) isWithin(frames int) bool {
	for _, e := range c.Entries {
		if e.Frame >= frames {
			return false
		}
	}
	return true
}

// open takes a copy, for the TLB is told even if nothing is done to it.
func (c *cache) open() {
	t, e := tlb.Drop(c.TLB, c.Drop)
	if e != api.OK {
		t = api.TLB{Entries: slices.Clone(c.Entries), Due: slices.Clone(c.Due)}
	}
	c.TLB = t
}

func (c *cache) whole(page int, acc int) (api.Entry, bool) {
	e, no := tlb.Whole(c.TLB, c.vmid, c.asid, page, acc)
	return e, c.Use && no == api.OK
}

func (c *cache) table(page int) (api.Entry, bool) {
	e, no := tlb.Walk(c.TLB, c.vmid, c.asid, page)
	return e, c.Use && no == api.OK
}

func (c *cache) middle(mid int, acc int) (api.Entry, bool) {
	e, no := tlb.Mid(c.TLB, c.vmid, mid, acc)
	return e, c.Use && no == api.OK
}

// keep is of entries that may be: so Fill tells no error. Where there is no room, nothing is kept.
func (c *cache) keep(e api.Entry) {
	c.TLB, _ = tlb.Fill(c.TLB, e)
}

func (c *cache) keepWhole(page int, h api.Hit) {
	c.keep(api.Entry{Kind: api.EntWhole, VMID: c.vmid, ASID: c.asid, All: !h.NG, Page: page, Frame: h.Frame, Mid: h.Mid, Attr: h.Attr})
}

// keepMiddle keeps no more than the machine is bound by: software's bits are none of that.
func (c *cache) keepMiddle(h api.Hit) {
	a := h.Attr
	a.Soft, a.NG = 0, false
	c.keep(api.Entry{Kind: api.EntMid, VMID: c.vmid, All: true, Page: h.Mid, Frame: h.Frame, Attr: a})
}

// keepTable is of the first one of the pages that the table leads to.
func (c *cache) keepTable(first int, level int, frame int) {
	c.keep(api.Entry{Kind: api.EntWalk, VMID: c.vmid, ASID: c.asid, Page: first, Level: level, Frame: frame})
}

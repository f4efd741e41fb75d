package inval

import (
	"slices"

	"bulwark/api"
	"bulwark/tlb"
)

// store is a TLB that is looked at.
type store struct {
	api.TLB
}

func (s store) mayBe() bool {
	return tlb.Check(s.TLB) == api.OK
}

func (s store) isFull() bool {
	return len(s.Due) >= api.MaxDue
}

func (s store) draft() draft {
	return draft{store{api.TLB{Entries: slices.Clone(s.Entries), Due: slices.Clone(s.Due)}}}
}

// draft is a store of new memory, which calls write into.
type draft struct {
	store
}

func (d *draft) forget(l ...api.Inval) {
	d.Entries = slices.DeleteFunc(d.Entries, func(e api.Entry) bool { return record{e}.isTaken(l...) })
}

// owe is of a draft that is not full.
func (d *draft) owe(i api.Inval) {
	d.Due = append(d.Due, i)
}

// crew are the TLBs of all processors.
type crew []api.TLB

func (c crew) mayBe() bool {
	for _, t := range c {
		if !(store{t}).mayBe() {
			return false
		}
	}
	return true
}

func (c crew) has(cpu int) bool {
	return cpu >= 0 && cpu < len(c)
}

// settled is of a processor that there is.
func (c crew) settled(cpu int) []api.TLB {
	due := c[cpu].Due
	l := make([]api.TLB, 0, len(c))
	for _, t := range c {
		d := store{t}.draft()
		d.forget(due...)
		l = append(l, d.TLB)
	}
	l[cpu].Due = nil
	return l
}

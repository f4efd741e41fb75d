package tlb

import (
	"slices"

	"bulwark/api"
)

// store is a TLB that is looked at.
type store struct {
	api.TLB
}

// mayBe asks for the lengths first: of a list that is too long, no entry is held against another.
func (s store) mayBe() bool {
	return len(s.Entries) <= api.MaxTLB && len(s.Due) <= api.MaxDue && s.entriesMayBe() && s.dueMayBe()
}

func (s store) entriesMayBe() bool {
	for i, e := range s.Entries {
		if !(record{e}).mayBe() || slices.Contains(s.Entries[:i], e) {
			return false
		}
	}
	return true
}

func (s store) dueMayBe() bool {
	for _, x := range s.Due {
		if !(due{x}).mayBe() {
			return false
		}
	}
	return true
}

func (s store) has(i int) bool {
	return i >= 0 && i < len(s.Entries)
}

func (s store) first(a ask) (api.Entry, api.Errno) {
	if !s.mayBe() || !a.mayBe() {
		return api.Entry{}, api.ErrForm
	}
	for _, e := range s.Entries {
		if (record{e}).fits(a) {
			return e, api.OK
		}
	}
	return api.Entry{}, api.ErrNone
}

// deepest does not ask what may be done: a table has no attributes.
func (s store) deepest(p place) (api.Entry, api.Errno) {
	if !s.mayBe() || !p.mayBe() {
		return api.Entry{}, api.ErrForm
	}
	best := api.Entry{}
	for _, e := range s.Entries {
		// No table has level 0; and of two of one level the later one does not count.
		if e.Kind == api.EntWalk && e.Level > best.Level && (record{e}).isOf(p) {
			best = e
		}
	}
	if best.Level == 0 {
		return api.Entry{}, api.ErrNone
	}
	return best, api.OK
}

// with is of a store and an entry that may be.
func (s store) with(e api.Entry) api.TLB {
	c := s.copied()
	if len(c.Entries) < api.MaxTLB && !slices.Contains(c.Entries, e) {
		c.Entries = append(c.Entries, e)
	}
	return c
}

// without is of a place that there is.
func (s store) without(i int) api.TLB {
	c := s.copied()
	c.Entries = slices.Delete(c.Entries, i, i+1)
	return c
}

func (s store) copied() api.TLB {
	return api.TLB{Entries: slices.Clone(s.Entries), Due: slices.Clone(s.Due)}
}

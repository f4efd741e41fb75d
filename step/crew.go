package step

import (
	"slices"

	"bulwark/api"
	"bulwark/inval"
	"bulwark/tlb"
)

// crew is the TLBs of all processors, and which of them it is that steps.
type crew struct {
	all []api.TLB
	cpu int
}

// mayStep is of a memory of so many frames: no entry leads beyond it, another processor's neither.
func (c *crew) mayStep(frames int) bool {
	for _, t := range c.all {
		if tlb.Check(t) != api.OK || !isWithin(frames, t.Entries...) {
			return false
		}
	}
	return c.cpu >= 0 && c.cpu < len(c.all)
}

func isWithin(frames int, l ...api.Entry) bool {
	for _, e := range l {
		if e.Frame >= frames {
			return false
		}
	}
	return true
}

func (c *crew) copiedCrew() crew {
	l := slices.Clone(c.all)
	for i, t := range l {
		l[i] = api.TLB{Entries: slices.Clone(t.Entries), Due: slices.Clone(t.Due)}
	}
	return crew{all: l, cpu: c.cpu}
}

// own is the TLB of the one who steps.
func (c *crew) own() *api.TLB {
	return &c.all[c.cpu]
}

func (c *crew) wait() {
	c.all, _ = inval.Wait(c.all, c.cpu)
}

// owe is of an Inval that may be: there is no error but that there is no room, and behind a wait there is.
func (c *crew) owe(i api.Inval) {
	t, e := inval.Later(*c.own(), i)
	if e != api.OK {
		c.wait()
		t, _ = inval.Later(*c.own(), i)
	}
	*c.own() = t
}

package access

import (
	"bulwark/api"
	"bulwark/mem"
	"bulwark/nest"
)

// floor is stage 2 over a memory, ahead of it what is remembered, and the frames that were read so far.
type floor struct {
	cache
	api.Mem
	two  api.Root
	read []int
}

func (s *floor) mayCarry() bool {
	return mem.Check(s.Mem) == api.OK && s.mayBe() && s.isWithin(s.frames()) && s.two.On && isUpTo(s.two.Frame, api.MaxPage)
}

func (s *floor) frames() int {
	n, _ := mem.Frames(s.Mem)
	return n
}

func (s *floor) note(l ...int) {
	s.read = append(s.read, l...)
}

// reach believes what is remembered: whether it is still so, memory is not asked.
func (s *floor) reach(mid int, acc int) (api.Hit, api.Fault) {
	if e, ok := s.middle(mid, acc); ok {
		return api.Hit{Frame: e.Frame, Mid: mid, Attr: e.Attr}, api.Fault{}
	}
	h, f, read, _ := nest.Mid(s.Mem, s.two, mid, acc)
	s.note(read...)
	if s.Mids && !isFault(f) {
		s.keepMiddle(h)
	}
	return h, f
}

func isFault(f api.Fault) bool {
	return f.Kind != api.FaultNone
}

package nest

import (
	"bulwark/api"
	"bulwark/desc"
	"bulwark/mem"
	"bulwark/perm"
	"bulwark/walk"
)

// floor is stage 2 over a memory: its root, and the frames that were read so far.
type floor struct {
	api.Mem
	api.Root
	read []int
}

func (s *floor) mayBe() bool {
	return mem.Check(s.Mem) == api.OK && isPage(s.Frame)
}

func (s *floor) mayCarry(mid int, acc int) bool {
	return s.mayBe() && isPage(mid) && isAccess(acc)
}

// isPage asks for the page's place in a table: each page has one, and nothing else has.
func isPage(n int) bool {
	_, e := desc.Index(0, n)
	return e == api.OK
}

func isAccess(acc int) bool {
	_, e := perm.May(api.Attr{}, acc)
	return e == api.OK
}

// reach is of a floor that may carry mid and acc.
func (s *floor) reach(mid int, acc int) (api.Hit, api.Fault) {
	h, f := s.find(mid)
	if isFault(f) {
		return api.Hit{}, f
	}
	f, _ = perm.Flag(h.Attr, acc, 2, h.Level, mid)
	if isFault(f) {
		return api.Hit{}, f
	}
	h.Mid = mid
	return h, api.Fault{}
}

func isFault(f api.Fault) bool {
	return f.Kind != api.FaultNone
}

// find asks for no access yet.
func (s *floor) find(mid int) (api.Hit, api.Fault) {
	if !s.On {
		return s.plain(mid)
	}
	h, f, read, _ := walk.Walk(s.Mem, 2, s.Frame, mid)
	s.read = append(s.read, read...)
	return h, f
}

// plain is stage 2 that is not on: each page is the frame of its number, and may be accessed in each way.
func (s *floor) plain(mid int) (api.Hit, api.Fault) {
	if n, _ := mem.Frames(s.Mem); mid >= n {
		return api.Hit{}, api.Fault{Kind: api.FaultSize, Stage: 2, Page: mid}
	}
	return api.Hit{Frame: mid, Attr: perm.Both()}, api.Fault{}
}

package perm

import "bulwark/api"

// grant is what attributes let be.
type grant struct {
	api.Attr
}

// most is where narrowing begins: narrowed by one attribute, it lets be what that one does.
func most() grant {
	return grant{api.Attr{R: true, W: true, X: true, AF: true}}
}

// narrow passes over a's Soft: software's bits are one descriptor's, not those of several together.
func (g *grant) narrow(a api.Attr) {
	g.R = g.R && a.R
	g.W = g.W && a.W
	g.X = g.X && a.X
	g.AF = g.AF && a.AF
	// What is one address space's alone on one side is so of the whole.
	g.NG = g.NG || a.NG
}

// attempt is an access to what has a grant.
type attempt struct {
	grant
	acc int
}

func attemptOf(a api.Attr, acc int) attempt {
	return attempt{grant: grant{a}, acc: acc}
}

func (t attempt) mayBe() bool {
	return t.acc >= api.AccRead && t.acc <= api.AccExec
}

// may does not ask for AF: that is a fault of its own.
func (t attempt) may() bool {
	switch t.acc {
	case api.AccRead:
		return t.R
	case api.AccWrite:
		return t.W
	case api.AccExec:
		return t.X
	}
	return false
}

// fault asks for AF first: what may not be accessed at all yet is told as that, even where it may not be accessed so.
func (t attempt) fault() int {
	switch {
	case !t.AF:
		return api.FaultFlag
	case !t.may():
		return api.FaultPerm
	}
	return api.FaultNone
}

package desc

import (
	"bulwark/api"
	"bulwark/word"
)

// Where the bits of a descriptor's word lie.
const (
	atMapped   = 0
	atDeep     = 1 // a table, or a leaf of the last level
	atNote     = 4
	atRead     = 6 // stage 2
	atReadOnly = 7 // stage 1
	atWrite    = 7 // stage 2
	atAccess   = 10
	atNotAll   = 11 // stage 1
	atFrame    = 12
	atNoExec   = 54
	atSoft     = 55 // stage 2

	frameBits = 12
	smallBits = 4
)

func oneBit(at int, on bool) api.Field {
	f := api.Field{At: at, N: 1}
	if on {
		f.V = 1
	}
	return f
}

func someBits(at int, bits int, v int) api.Field {
	return api.Field{At: at, N: bits, V: uint64(v)}
}

// word is of an entry that may be: then each field may be, too, and no two have a bit in common.
func (n entry) word() uint64 {
	w, _ := word.Join(n.fields()...)
	return w
}

func (n entry) fields() []api.Field {
	if n.Kind == api.DescNone {
		return []api.Field{someBits(atNote, smallBits, n.Note)}
	}
	leaf := n.Kind == api.DescLeaf
	l := []api.Field{
		oneBit(atMapped, true),
		oneBit(atDeep, !leaf || n.level == lastLevel),
		someBits(atFrame, frameBits, n.Frame),
	}
	if leaf {
		l = append(l, n.attrFields()...)
	}
	return l
}

func (n entry) attrFields() []api.Field {
	l := []api.Field{oneBit(atAccess, n.AF), oneBit(atNoExec, !n.X)}
	if n.stage == 1 {
		return append(l, oneBit(atReadOnly, !n.W), oneBit(atNotAll, n.NG))
	}
	return append(l, oneBit(atRead, n.R), oneBit(atWrite, n.W), someBits(atSoft, smallBits, n.Soft))
}

// raw is a word that is read; its places are this file's, so that none may not be.
type raw uint64

func (r raw) number(at int, bits int) int {
	v, _ := word.Get(uint64(r), at, bits)
	return int(v)
}

func (r raw) flag(at int) bool {
	return r.number(at, 1) == 1
}

// read tells the one entry of this spot whose word w could be: it need not be one that may be.
func (s spot) read(w uint64) entry {
	n, r := entry{spot: s}, raw(w)
	n.Kind = s.kind(r)
	if n.Kind == api.DescNone {
		n.Note = r.number(atNote, smallBits)
		return n
	}
	n.Frame = r.number(atFrame, frameBits)
	if n.Kind == api.DescLeaf {
		n.Attr = s.attr(r)
	}
	return n
}

func (s spot) kind(r raw) int {
	if !r.flag(atMapped) {
		return api.DescNone
	}
	if r.flag(atDeep) && s.level != lastLevel {
		return api.DescTable
	}
	return api.DescLeaf
}

func (s spot) attr(r raw) api.Attr {
	a := api.Attr{X: !r.flag(atNoExec), AF: r.flag(atAccess)}
	if s.stage == 1 {
		a.R, a.W, a.NG = true, !r.flag(atReadOnly), r.flag(atNotAll)
		return a
	}
	a.R, a.W, a.Soft = r.flag(atRead), r.flag(atWrite), r.number(atSoft, smallBits)
	return a
}

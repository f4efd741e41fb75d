package mem

import (
	"slices"

	"bulwark/api"
)

const wordBytes = 8

// bank is a memory that is looked at.
type bank struct {
	api.Mem
}

func (b bank) mayBe() bool {
	n := len(b.Words)
	return n > 0 && n <= api.MaxFrames*api.Slots && n%api.Slots == 0
}

func (b bank) frames() int {
	return len(b.Words) / api.Slots
}

func (b bank) bytes() int {
	return len(b.Words) * wordBytes
}

// frame is the bank's own words, not a copy of them.
func (b bank) frame(f int) []uint64 {
	return b.Words[f*api.Slots : (f+1)*api.Slots]
}

// hasAll tells why not all frames of l are there.
func (b bank) hasAll(l ...int) api.Errno {
	if !b.mayBe() {
		return api.ErrForm
	}
	for _, f := range l {
		if f < 0 || f >= b.frames() {
			return api.ErrLimit
		}
	}
	return api.OK
}

// allows tells why there is no number at p.
func (b bank) allows(p place) api.Errno {
	if !b.mayBe() || !p.mayBe() {
		return api.ErrForm
	}
	// The last byte needs no look: the memory is whole words, and no number goes over a word's end.
	if p.at < 0 || p.at >= b.bytes() {
		return api.ErrLimit
	}
	if p.at%p.size != 0 {
		return api.ErrAlign
	}
	return api.OK
}

// draft is a bank that is written into: nobody else has its words.
type draft struct {
	bank
}

func draftOf(m api.Mem) draft {
	return draft{bank{api.Mem{Words: slices.Clone(m.Words)}}}
}

func (d draft) put(p place, v uint64) {
	w := &d.Words[p.word()]
	*w = *w&^(p.ones()<<p.low()) | v&p.ones()<<p.low()
}

// place is where a number's bytes lie.
type place struct {
	at   int
	size int
}

func (p place) mayBe() bool {
	return p.size == 1 || p.size == 2 || p.size == 4 || p.size == 8
}

func (p place) word() int {
	return p.at / wordBytes
}

// low is the lowest one of p's bits in its word.
func (p place) low() int {
	return p.at % wordBytes * 8
}

// ones is the greatest number that p has room for.
func (p place) ones() uint64 {
	return ^uint64(0) >> (8 * (wordBytes - p.size))
}

package word

import "bulwark/api"

const wordBits = 64

// span is a place in a word.
type span struct {
	at int
	n  int
}

// mayBe takes n from the word's bits, and adds nothing: a sum of at and n could wrap round.
// That at is neither below 0 nor above what is left holds n to 64, too.
func (s span) mayBe() bool {
	return s.n >= 1 && s.at >= 0 && s.at <= wordBits-s.n
}

// ones is the greatest number that has room in s.
func (s span) ones() uint64 {
	return ^uint64(0) >> (wordBits - s.n)
}

// mask is the bits of a word that s has.
func (s span) mask() uint64 {
	return s.ones() << s.at
}

// field is a place with a number in it.
type field struct {
	span
	v uint64
}

func fieldOf(f api.Field) field {
	return field{span: span{at: f.At, n: f.N}, v: f.V}
}

func (f field) mayBe() bool {
	return f.span.mayBe() && f.v <= f.ones()
}

func (f field) bits() uint64 {
	return f.v << f.at
}

// lay puts fields side by side: the bits that they have, and what these are.
func lay(l ...api.Field) (has uint64, bits uint64, e api.Errno) {
	// A loop of its own: an unlawful field counts even behind two that clash.
	for _, x := range l {
		if !fieldOf(x).mayBe() {
			return 0, 0, api.ErrForm
		}
	}
	for _, x := range l {
		f := fieldOf(x)
		if has&f.mask() != 0 {
			return 0, 0, api.ErrThere
		}
		has |= f.mask()
		bits |= f.bits()
	}
	return has, bits, api.OK
}

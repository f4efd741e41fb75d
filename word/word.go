// Package word: fields of words: see ../../shared/doc/01-word.md.
package word

import "bulwark/api"

// Get tells the n bits of v from bit at on.
func Get(v uint64, at int, n int) (uint64, api.Errno) {
	s := span{at: at, n: n}
	if !s.mayBe() {
		return 0, api.ErrForm
	}
	return v >> s.at & s.ones(), api.OK
}

// Put tells v with f in the place of the bits that f has.
func Put(v uint64, f api.Field) (uint64, api.Errno) {
	has, bits, e := lay(f)
	if e != api.OK {
		return 0, e
	}
	return v&^has | bits, api.OK
}

// Join tells the word that has all of l, and 0 elsewhere.
func Join(l ...api.Field) (uint64, api.Errno) {
	_, bits, e := lay(l...)
	return bits, e
}

// Free tells the bits that none of l has, 1 each.
func Free(l ...api.Field) (uint64, api.Errno) {
	has, _, e := lay(l...)
	if e != api.OK {
		return 0, e
	}
	return ^has, api.OK
}

// Sign tells the number that the lowest n bits of v are, the highest of them the sign.
func Sign(v uint64, n int) (uint64, api.Errno) {
	s := span{n: n}
	if !s.mayBe() {
		return 0, api.ErrForm
	}
	// A shift of a signed number to the right draws its sign after it.
	up := wordBits - s.n
	return uint64(int64(v<<up) >> up), api.OK
}

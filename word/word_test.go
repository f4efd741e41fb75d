package word_test

import (
	"math"
	"slices"
	"testing"

	"bulwark/api"
	"bulwark/word"
)

const ones = ^uint64(0)

// words to look at: none, all, ends, stripes, and some with nothing regular in them.
var words = []uint64{0, 1, 2, 0xf0, 1 << 63, ones, ones >> 1, 0x5555555555555555, 0xaaaaaaaaaaaaaaaa, 0x0123456789abcdef, 0xfedcba9876543210, 0xdeadbeef00c0ffee}

// edges of places and lengths, those among them that wrap round in a sum or a product.
var edges = []int{math.MinInt, math.MinInt + 1, math.MinInt + 64, -1 << 32, -65, -64, -63, -2, -1, 0, 1, 2, 31, 32, 33, 62, 63, 64, 65, 66, 127, 128, 256, 1 << 32, 1<<32 + 1, math.MaxInt - 64, math.MaxInt - 1, math.MaxInt}

// lawful says in the document's words, without a sum that could wrap round, whether a place may be.
func lawful(at, n int) bool {
	for k := 1; k <= 64; k++ {
		for a := 0; a+k <= 64; a++ {
			if at == a && n == k {
				return true
			}
		}
	}
	return false
}

// bit by bit: slow, but plain.
func bit(v uint64, k int) uint64 { return v >> uint(k) % 2 }

func slowGet(v uint64, at, n int) (x uint64) {
	for k := range n {
		x += bit(v, at+k) << uint(k)
	}
	return x
}

func slowPut(v uint64, f api.Field) (x uint64) {
	for k := range 64 {
		b := bit(v, k)
		if k >= f.At && k < f.At+f.N {
			b = bit(f.V, k-f.At)
		}
		x += b << uint(k)
	}
	return x
}

func slowSign(v uint64, n int) (x uint64) {
	for k := range 64 {
		x += bit(v, min(k, n-1)) << uint(k)
	}
	return x
}

// places calls f with each place that may be.
func places(f func(at, n int)) {
	for n := 1; n <= 64; n++ {
		for at := 0; at+n <= 64; at++ {
			f(at, n)
		}
	}
}

// greatest is 2^n - 1, for n from 1 to 64.
func greatest(n int) uint64 { return uint64(1)<<uint(n-1) - 1 + uint64(1)<<uint(n-1) }

// P1.1, example 1.
func TestGetExample(t *testing.T) {
	if v, e := word.Get(0xf0, 4, 4); v != 15 || e != api.OK {
		t.Errorf("Get(0xf0, 4, 4): %d, %d", v, e)
	}
}

// P1.1: those bits, at each place that may be.
func TestGet(t *testing.T) {
	for _, v := range words {
		places(func(at, n int) {
			if x, e := word.Get(v, at, n); x != slowGet(v, at, n) || e != api.OK {
				t.Errorf("Get(%#x, %d, %d): %#x, %d", v, at, n, x, e)
			}
		})
	}
}

// P1.1, R4: a place that may not be is ErrForm, and 0 beside it.
func TestGetForm(t *testing.T) {
	for _, at := range edges {
		for _, n := range edges {
			if lawful(at, n) {
				continue
			}
			if x, e := word.Get(ones, at, n); x != 0 || e != api.ErrForm {
				t.Errorf("Get(ones, %d, %d): %#x, %d", at, n, x, e)
			}
		}
	}
}

// P1.1: V stands in the place of those bits; numbers from 0 to just below 2^N.
func TestPut(t *testing.T) {
	for _, v := range words {
		places(func(at, n int) {
			for _, x := range []uint64{0, 1, greatest(n) / 2, greatest(n) / 3, greatest(n) - 1, greatest(n)} {
				f := api.Field{At: at, N: n, V: x}
				if w, e := word.Put(v, f); w != slowPut(v, f) || e != api.OK {
					t.Errorf("Put(%#x, %v): %#x, %d", v, f, w, e)
				}
			}
		})
	}
}

// badFields are fields that may not be: for their place, or for a number from 2^N on.
func badFields() (l []api.Field) {
	for _, at := range edges {
		for _, n := range edges {
			if !lawful(at, n) {
				l = append(l, api.Field{At: at, N: n}, api.Field{At: at, N: n, V: 1})
			}
		}
	}
	places(func(at, n int) {
		if n < 64 {
			l = append(l, api.Field{At: at, N: n, V: greatest(n) + 1}, api.Field{At: at, N: n, V: ones})
		}
	})
	return l
}

// P1.1, R4: a field that may not be is ErrForm, and 0 beside it.
func TestPutForm(t *testing.T) {
	for _, f := range badFields() {
		if w, e := word.Put(ones, f); w != 0 || e != api.ErrForm {
			t.Errorf("Put(ones, %v): %#x, %d", f, w, e)
		}
	}
}

// rows of fields: what they are together, what they leave, what error they are told.
var rows = []struct {
	name       string
	l          []api.Field
	join, free uint64
	e          api.Errno
}{
	{"none", nil, 0, ones, api.OK},
	{"an empty row", []api.Field{}, 0, ones, api.OK},
	{"one bit", []api.Field{{At: 0, N: 1, V: 1}}, 1, ones - 1, api.OK},
	{"the last bit", []api.Field{{At: 63, N: 1, V: 1}}, 1 << 63, ones >> 1, api.OK},
	{"all bits", []api.Field{{At: 0, N: 64, V: ones}}, ones, 0, api.OK},
	{"noughts have their bits too", []api.Field{{At: 4, N: 4}}, 0, 0xffffffffffffff0f, api.OK},
	{"side by side, out of order", []api.Field{{At: 32, N: 32, V: 5}, {At: 0, N: 32, V: 6}}, 5<<32 + 6, 0, api.OK},
	{"apart", []api.Field{{At: 0, N: 1, V: 1}, {At: 12, N: 12, V: 5}, {At: 48, N: 4, V: 15}}, 0xf000000005001, 0xfff0ffffff000ffe, api.OK},
	{"one twice", []api.Field{{At: 8, N: 8, V: 7}, {At: 8, N: 8, V: 7}}, 0, 0, api.ErrThere},
	{"a bit in common", []api.Field{{At: 0, N: 4, V: 1}, {At: 3, N: 4, V: 1}}, 0, 0, api.ErrThere},
	{"a bit in common, of noughts", []api.Field{{At: 0, N: 4}, {At: 3, N: 1}}, 0, 0, api.ErrThere},
	{"the last bit in common", []api.Field{{At: 0, N: 64}, {At: 63, N: 1}}, 0, 0, api.ErrThere},
	{"one within another, the outer one behind", []api.Field{{At: 5, N: 1}, {At: 0, N: 64}}, 0, 0, api.ErrThere},
	{"first and last clash", []api.Field{{At: 0, N: 2}, {At: 2, N: 2}, {At: 4, N: 2}, {At: 1, N: 1}}, 0, 0, api.ErrThere},
	{"an unlawful one alone", []api.Field{{}}, 0, 0, api.ErrForm},
	{"a number of 2^N", []api.Field{{At: 4, N: 4, V: 16}}, 0, 0, api.ErrForm},
	{"beyond bit 64", []api.Field{{At: 61, N: 4}}, 0, 0, api.ErrForm},
	{"an unlawful one behind two that clash", []api.Field{{At: 0, N: 4}, {At: 0, N: 4}, {At: 64, N: 1}}, 0, 0, api.ErrForm},
	{"an unlawful one between two that clash", []api.Field{{At: 0, N: 4}, {At: 64, N: 1}, {At: 0, N: 4}}, 0, 0, api.ErrForm},
	{"an unlawful one that clashes", []api.Field{{At: 0, N: 4}, {At: 0, N: 4, V: 16}}, 0, 0, api.ErrForm},
}

// P1.2, R4: fields together, what they leave, and which error is told.
func TestJoinAndFree(t *testing.T) {
	for _, c := range rows {
		if w, e := word.Join(c.l...); w != c.join || e != c.e {
			t.Errorf("Join, %s: %#x, %d, not %#x, %d", c.name, w, e, c.join, c.e)
		}
		if w, e := word.Free(c.l...); w != c.free || e != c.e {
			t.Errorf("Free, %s: %#x, %d, not %#x, %d", c.name, w, e, c.free, c.e)
		}
	}
}

// P1.2: any number of fields, called with values: 64 of a bit each, and one too many.
func TestJoinMany(t *testing.T) {
	for _, v := range words {
		var l []api.Field
		for k := 63; k >= 0; k-- {
			l = append(l, api.Field{At: k, N: 1, V: bit(v, k)})
		}
		if w, e := word.Join(l...); w != v || e != api.OK {
			t.Errorf("Join of the bits of %#x: %#x, %d", v, w, e)
		}
		if w, e := word.Free(l...); w != 0 || e != api.OK {
			t.Errorf("Free of the bits of %#x: %#x, %d", v, w, e)
		}
		if w, e := word.Join(append(l, l[7])...); w != 0 || e != api.ErrThere {
			t.Errorf("Join of one bit too many: %#x, %d", w, e)
		}
	}
	if w, e := word.Join(api.Field{At: 0, N: 2, V: 2}, api.Field{At: 2, N: 2, V: 1}); w != 6 || e != api.OK {
		t.Errorf("Join of values: %#x, %d", w, e)
	}
	if w, e := word.Free(api.Field{At: 0, N: 2, V: 2}, api.Field{At: 2, N: 2, V: 1}); w != ones-15 || e != api.OK {
		t.Errorf("Free of values: %#x, %d", w, e)
	}
}

// P1.2: two fields clash just if they have a bit in common, whatever their numbers and their order.
func TestJoinPairs(t *testing.T) {
	for _, a := range []api.Field{{At: 0, N: 1}, {At: 0, N: 64}, {At: 7, N: 9, V: 3}, {At: 32, N: 32}, {At: 63, N: 1, V: 1}} {
		places(func(at, n int) {
			b := api.Field{At: at, N: n, V: greatest(n)}
			join, free, want := slowPut(slowPut(0, a), b), ^slowPut(slowPut(0, api.Field{At: a.At, N: a.N, V: greatest(a.N)}), b), api.OK
			if a.At < at+n && at < a.At+a.N {
				join, free, want = 0, 0, api.ErrThere
			}
			for _, l := range [][]api.Field{{a, b}, {b, a}} {
				if w, e := word.Join(l...); w != join || e != want {
					t.Errorf("Join of %v: %#x, %d", l, w, e)
				}
				if w, e := word.Free(l...); w != free || e != want {
					t.Errorf("Free of %v: %#x, %d", l, w, e)
				}
			}
		})
	}
}

// P1.2, R4: each unlawful field is ErrForm, wherever it stands.
func TestJoinForm(t *testing.T) {
	a, b := api.Field{At: 0, N: 4, V: 1}, api.Field{At: 3, N: 1}
	for _, f := range badFields() {
		for _, l := range [][]api.Field{{f}, {f, a}, {a, f}, {a, b, f}, {f, a, b}} {
			if w, e := word.Join(l...); w != 0 || e != api.ErrForm {
				t.Errorf("Join of %v: %#x, %d", l, w, e)
			}
			if w, e := word.Free(l...); w != 0 || e != api.ErrForm {
				t.Errorf("Free of %v: %#x, %d", l, w, e)
			}
		}
	}
}

// R2: a row that is handed in stays as it is, its spare room too.
func TestRowStays(t *testing.T) {
	for _, c := range rows {
		l := append(slices.Clone(c.l), api.Field{At: 9, N: 9, V: 9})
		old := slices.Clone(l)
		word.Join(l[:len(c.l)]...)
		word.Free(l[:len(c.l)]...)
		if !slices.Equal(l, old) {
			t.Errorf("%s: %v was made %v", c.name, old, l)
		}
	}
}

// P1.3: the lowest n bits, the highest of them the sign.
func TestSign(t *testing.T) {
	for _, c := range []struct {
		v    uint64
		n    int
		want int64
	}{{0, 1, 0}, {1, 1, -1}, {2, 1, 0}, {3, 1, -1}, {1, 2, 1}, {2, 2, -2}, {0x7ff, 12, 2047}, {0x800, 12, -2048}, {0xfff, 12, -1}, {0x1000, 12, 0}, {0x17ff, 12, 2047}, {ones >> 1, 63, -1}, {1 << 62, 63, -1 << 62}, {1 << 63, 63, 0}, {1<<63 - 1, 64, math.MaxInt64}, {1 << 63, 64, math.MinInt64}, {ones, 64, -1}} {
		if v, e := word.Sign(c.v, c.n); v != uint64(c.want) || e != api.OK {
			t.Errorf("Sign(%#x, %d): %#x, %d", c.v, c.n, v, e)
		}
	}
	for _, v := range words {
		for n := 1; n <= 64; n++ {
			if x, e := word.Sign(v, n); x != slowSign(v, n) || e != api.OK {
				t.Errorf("Sign(%#x, %d): %#x, %d", v, n, x, e)
			}
		}
	}
}

// P1.3, R4: ErrForm for a number of bits that may not be, and 0 beside it.
func TestSignForm(t *testing.T) {
	for _, n := range edges {
		if n >= 1 && n <= 64 {
			continue
		}
		if v, e := word.Sign(ones, n); v != 0 || e != api.ErrForm {
			t.Errorf("Sign(ones, %d): %#x, %d", n, v, e)
		}
	}
}

// P1.4: what was put is got, and every place beside it stands as it stood.
func TestPutIsGot(t *testing.T) {
	for _, v := range words {
		places(func(at, n int) {
			for _, x := range []uint64{0, greatest(n), v & greatest(n)} {
				w, e := word.Put(v, api.Field{At: at, N: n, V: x})
				if got, f := word.Get(w, at, n); got != x || e != api.OK || f != api.OK {
					t.Errorf("%#x at %d, %d bits of %#x: got %#x, %d, %d", x, at, n, v, got, e, f)
				}
				for k := range 64 {
					if (k < at || k >= at+n) && bit(w, k) != bit(v, k) {
						t.Errorf("%#x at %d, %d bits of %#x: bit %d has changed", x, at, n, v, k)
					}
				}
			}
		})
	}
}

// P1.4: of fields that are joined each is got again, and what Free tells is 0 there.
func TestJoinIsGot(t *testing.T) {
	for _, c := range rows {
		if c.e != api.OK {
			continue
		}
		w, _ := word.Join(c.l...)
		free, _ := word.Free(c.l...)
		for _, f := range c.l {
			if x, e := word.Get(w, f.At, f.N); x != f.V || e != api.OK {
				t.Errorf("%s: %v is %#x, %d", c.name, f, x, e)
			}
			if x, e := word.Get(free, f.At, f.N); x != 0 || e != api.OK {
				t.Errorf("%s: %v is free: %#x, %d", c.name, f, x, e)
			}
		}
		if w&free != 0 {
			t.Errorf("%s: %#x stands where nothing is", c.name, w&free)
		}
	}
}

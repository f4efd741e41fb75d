package mem_test

import (
	"math"
	"slices"
	"testing"

	"bulwark/api"
	"bulwark/mem"
)

// far are numbers that are no frame's and no byte's; some come back into memory where a product wraps round.
var far = []int{math.MinInt, math.MinInt + 1, math.MinInt + 8, -1 << 61, -1 << 58, -1 << 32, -512, -64, -9, -8, -2, -1, 4096, 4097, 4104, 1 << 32, 1 << 58, 1 << 60, 1<<60 + 1, 1 << 61, 1 << 62, math.MaxInt - 7, math.MaxInt - 1, math.MaxInt}

// sizes are those that may be, and others beside them.
var sizes = []int{math.MinInt, -8, -4, -2, -1, 0, 1, 2, 3, 4, 5, 6, 7, 8, 9, 10, 12, 15, 16, 24, 32, 64, 1 << 32, 1 << 62, math.MaxInt}

func maySize(n int) bool { return n == 1 || n == 2 || n == 4 || n == 8 }

// filled is a memory whose bytes tell where they stand: no two words are alike, none is nought.
func filled(frames int) api.Mem {
	m := api.Mem{Words: make([]uint64, frames*8)}
	for i := range m.Words {
		m.Words[i] = uint64(i+1)*0x9e3779b97f4a7c15 | 1
	}
	return m
}

// bytesOf is a memory byte by byte, as the document counts them.
func bytesOf(m api.Mem) (l []byte) {
	for _, w := range m.Words {
		for k := range 8 {
			l = append(l, byte(w>>(8*k)))
		}
	}
	return l
}

// ofBytes is the memory that has these bytes.
func ofBytes(l []byte) (m api.Mem) {
	for i := 0; i < len(l); i += 8 {
		w := uint64(0)
		for k := 7; k >= 0; k-- {
			w = w*256 + uint64(l[i+k])
		}
		m.Words = append(m.Words, w)
	}
	return m
}

func same(a, b api.Mem) bool { return slices.Equal(a.Words, b.Words) }

// told says whether a memory and an error are what is wanted: beside an error no memory.
func told(m api.Mem, e api.Errno, want api.Mem, bad api.Errno) bool {
	if bad != api.OK {
		return e == bad && len(m.Words) == 0
	}
	return e == api.OK && same(m, want)
}

// badMems are memories that may not be: no words, no whole frames, too many.
func badMems() (l []api.Mem) {
	l = append(l, api.Mem{}, api.Mem{Words: []uint64{}})
	for _, n := range []int{1, 2, 7, 9, 15, 17, 8*64 - 1, 8*64 + 1, 8*64 + 7, 8 * 65, 8 * 66, 8 * 128} {
		l = append(l, api.Mem{Words: make([]uint64, n)})
	}
	return l
}

// P2.1: 1 to 64 frames of noughts, each of eight words.
func TestNew(t *testing.T) {
	for n := 1; n <= 64; n++ {
		m, e := mem.New(n)
		if !told(m, e, api.Mem{Words: make([]uint64, 8*n)}, api.OK) {
			t.Errorf("New(%d): %v, %d", n, m, e)
		}
	}
	for _, n := range append([]int{0, 65, 66, 128}, far...) {
		if m, e := mem.New(n); !told(m, e, api.Mem{}, api.ErrForm) {
			t.Errorf("New(%d): %v, %d", n, m, e)
		}
	}
}

// P2.1, R2: two memories have nothing in common.
func TestNewApart(t *testing.T) {
	a, _ := mem.New(2)
	b, _ := mem.New(2)
	for i := range a.Words {
		a.Words[i] = 7
	}
	if slices.Max(b.Words) != 0 {
		t.Errorf("one memory has what was written into another")
	}
}

// P2.1: which memories may be, and how many frames they have.
func TestCheckAndFrames(t *testing.T) {
	for words := range 8*64 + 20 {
		m := api.Mem{Words: make([]uint64, words)}
		n, want := words/8, api.OK
		if words == 0 || words%8 != 0 || words > 8*64 {
			n, want = 0, api.ErrForm
		}
		if e := mem.Check(m); e != want {
			t.Errorf("Check of %d words: %d", words, e)
		}
		if k, e := mem.Frames(m); k != n || e != want {
			t.Errorf("Frames of %d words: %d, %d", words, k, e)
		}
	}
}

// R4, 'ErrForm ahead of all': a memory that may not be, whatever else is wrong.
func TestBadMem(t *testing.T) {
	for _, m := range badMems() {
		n := len(m.Words)
		for _, at := range []int{-1, 0, 1, 1 << 40} {
			for _, size := range []int{0, 1, 2, 3, 8} {
				if v, e := mem.Read(m, at, size); v != 0 || e != api.ErrForm {
					t.Errorf("Read of %d words: %d, %d", n, v, e)
				}
				if x, e := mem.Write(m, at, size, 1); !told(x, e, api.Mem{}, api.ErrForm) {
					t.Errorf("Write of %d words: %v, %d", n, x, e)
				}
			}
			if l, e := mem.Frame(m, at); len(l) != 0 || e != api.ErrForm {
				t.Errorf("Frame of %d words: %v, %d", n, l, e)
			}
			for _, x := range []func() (api.Mem, api.Errno){
				func() (api.Mem, api.Errno) { return mem.Zero(m) },
				func() (api.Mem, api.Errno) { return mem.Zero(m, at) },
				func() (api.Mem, api.Errno) { return mem.Zero(m, 0, at) },
				func() (api.Mem, api.Errno) { return mem.Copy(m, at, 0) },
				func() (api.Mem, api.Errno) { return mem.Copy(m, 0, at) },
			} {
				if x, e := x(); !told(x, e, api.Mem{}, api.ErrForm) {
					t.Errorf("%d words: %v, %d", n, x, e)
				}
			}
		}
	}
}

// P2.2, example 1: 0x0102 at 2, two bytes: byte 2 is 2.
func TestWriteExample(t *testing.T) {
	m, _ := mem.New(1)
	m, e := mem.Write(m, 2, 2, 0x0102)
	if v, f := mem.Read(m, 2, 1); v != 2 || e != api.OK || f != api.OK {
		t.Errorf("byte 2: %d, %d, %d", v, e, f)
	}
	if v, e := mem.Read(m, 3, 1); v != 1 || e != api.OK {
		t.Errorf("byte 3: %d, %d", v, e)
	}
}

// place says what error a place is told, of a memory of so many bytes.
func place(at, size, bytes int) api.Errno {
	if !maySize(size) {
		return api.ErrForm
	}
	if at < 0 || at >= bytes {
		return api.ErrLimit
	}
	if at%size != 0 {
		return api.ErrAlign
	}
	return api.OK
}

// places calls f with each byte's place and those about the ends, and with each size.
func places(bytes int, f func(at, size int)) {
	for _, size := range sizes {
		for at := -9; at < bytes+9; at++ {
			f(at, size)
		}
		for _, at := range far {
			f(at, size)
		}
	}
}

// P2.2, R4: each place is read, byte by byte; of two errors the first one is told.
func TestRead(t *testing.T) {
	for _, frames := range []int{1, 3, 64} {
		m := filled(frames)
		l := bytesOf(m)
		places(len(l), func(at, size int) {
			bad, want := place(at, size, len(l)), uint64(0)
			if bad == api.OK {
				for k := size - 1; k >= 0; k-- {
					want = want*256 + uint64(l[at+k])
				}
			}
			if v, e := mem.Read(m, at, size); v != want || e != bad {
				t.Errorf("Read(%d frames, %d, %d): %#x, %d, not %#x, %d", frames, at, size, v, e, want, bad)
			}
		})
		if !same(m, filled(frames)) {
			t.Errorf("Read has changed the memory")
		}
	}
}

// P2.2, P2.4, R2, R4: v's lowest bytes are written; all others, and what was handed in, stay.
func TestWrite(t *testing.T) {
	for _, frames := range []int{1, 2} {
		m := filled(frames)
		old := bytesOf(m)
		for _, v := range []uint64{0, ^uint64(0), 0x8877665544332211} {
			places(len(old), func(at, size int) {
				bad := place(at, size, len(old))
				want := slices.Clone(old)
				if bad == api.OK {
					for k := range size {
						want[at+k] = byte(v >> (8 * k))
					}
				}
				x, e := mem.Write(m, at, size, v)
				if !told(x, e, ofBytes(want), bad) {
					t.Errorf("Write(%d frames, %d, %d, %#x): %v, %d, not %d", frames, at, size, v, x, e, bad)
				}
			})
		}
		if !same(m, filled(frames)) {
			t.Errorf("Write has changed what was handed in")
		}
	}
}

// P2.2: the last byte of the greatest memory, and the one behind it.
func TestLastByte(t *testing.T) {
	m := filled(64)
	x, e := mem.Write(m, 64*64-1, 1, 0x1fe)
	want := bytesOf(m)
	want[64*64-1] = 0xfe
	if !told(x, e, ofBytes(want), api.OK) {
		t.Errorf("the last byte: %d", e)
	}
	if x, e := mem.Write(m, 64*64, 1, 0); !told(x, e, api.Mem{}, api.ErrLimit) {
		t.Errorf("the byte behind it: %d", e)
	}
	if v, e := mem.Read(m, 64*64-8, 8); v != m.Words[511] || e != api.OK {
		t.Errorf("the last word: %#x, %d", v, e)
	}
}

// P2.4: what was written is read, by its own size and by each other one.
func TestWrittenIsRead(t *testing.T) {
	m := filled(2)
	for _, size := range []int{1, 2, 4, 8} {
		for at := 0; at < 128; at += size {
			v := uint64(0xf1e2d3c4b5a69788) >> at % 8
			x, _ := mem.Write(m, at, size, v)
			if got, e := mem.Read(x, at, size); got != v<<(64-8*size)>>(64-8*size) || e != api.OK {
				t.Errorf("%d bytes at %d: %#x, %d", size, at, got, e)
			}
			for b := range 128 {
				was, _ := mem.Read(m, b, 1)
				now, _ := mem.Read(x, b, 1)
				if b >= at && b < at+size {
					was = v >> (8 * (b - at)) & 0xff
				}
				if now != was {
					t.Errorf("%d bytes at %d: byte %d is %#x, not %#x", size, at, b, now, was)
				}
			}
		}
	}
}

// P2.3: any number of frames is zeroed: none, one, one twice, all of them, called with values and with a row.
func TestZero(t *testing.T) {
	m := filled(4)
	for _, l := range [][]int{nil, {}, {0}, {3}, {1, 1}, {3, 0}, {2, 0, 2, 1}, {0, 1, 2, 3}} {
		want := filled(4)
		for i := range want.Words {
			if slices.Contains(l, i/8) {
				want.Words[i] = 0
			}
		}
		row := slices.Clone(l)
		if x, e := mem.Zero(m, row...); !told(x, e, want, api.OK) || !slices.Equal(row, l) {
			t.Errorf("Zero of %v: %v, %d", l, x, e)
		}
	}
	if x, e := mem.Zero(m, 1, 3); e != api.OK || slices.Max(x.Words[8:16]) != 0 || slices.Max(x.Words[24:]) != 0 {
		t.Errorf("Zero of 1 and 3: %v, %d", x, e)
	}
	if !same(m, filled(4)) {
		t.Errorf("Zero has changed what was handed in")
	}
}

// P2.3, R4: a frame that is not there, ahead of those that are and behind them.
func TestZeroLimit(t *testing.T) {
	m := filled(4)
	for _, f := range append([]int{4, 5, 8, 63, 64}, far...) {
		for _, l := range [][]int{{f}, {f, 0}, {0, f}, {0, 1, 2, 3, f}, {3, f, 3}, {f, f}} {
			if x, e := mem.Zero(m, l...); !told(x, e, api.Mem{}, api.ErrLimit) {
				t.Errorf("Zero of %v: %v, %d", l, x, e)
			}
		}
	}
	if !same(m, filled(4)) {
		t.Errorf("Zero has changed what was handed in")
	}
}

// P2.3: to is as from, all others stay; a frame may be copied to itself.
func TestCopy(t *testing.T) {
	m := filled(4)
	for from := range 4 {
		for to := range 4 {
			want := filled(4)
			for k := range 8 {
				want.Words[8*to+k] = m.Words[8*from+k]
			}
			if x, e := mem.Copy(m, from, to); !told(x, e, want, api.OK) {
				t.Errorf("Copy(%d, %d): %v, %d", from, to, x, e)
			}
		}
		for _, f := range append([]int{4, 64}, far...) {
			if x, e := mem.Copy(m, from, f); !told(x, e, api.Mem{}, api.ErrLimit) {
				t.Errorf("Copy(%d, %d): %v, %d", from, f, x, e)
			}
			if x, e := mem.Copy(m, f, from); !told(x, e, api.Mem{}, api.ErrLimit) {
				t.Errorf("Copy(%d, %d): %v, %d", f, from, x, e)
			}
			if x, e := mem.Copy(m, f, f); !told(x, e, api.Mem{}, api.ErrLimit) {
				t.Errorf("Copy(%d, %d): %v, %d", f, f, x, e)
			}
		}
	}
	if !same(m, filled(4)) {
		t.Errorf("Copy has changed what was handed in")
	}
}

// P2.3: a frame's words.
func TestFrame(t *testing.T) {
	for _, n := range []int{1, 2, 64} {
		m := filled(n)
		for f := range n {
			if l, e := mem.Frame(m, f); !slices.Equal(l, m.Words[8*f:8*f+8]) || e != api.OK {
				t.Errorf("Frame %d: %v, %d", f, l, e)
			}
		}
		for _, f := range append([]int{n, n + 1, 64}, far...) {
			if l, e := mem.Frame(m, f); len(l) != 0 || e != api.ErrLimit {
				t.Errorf("Frame %d: %v, %d", f, l, e)
			}
		}
	}
}

// R2: answers are copies, those too in which nothing is other than it was; so is their spare room.
func TestAnswersAreCopies(t *testing.T) {
	room := make([]uint64, 0, 40)
	m := api.Mem{Words: append(room, filled(4).Words...)}
	w, _ := mem.Write(m, 0, 8, m.Words[0])
	z, _ := mem.Zero(m)
	c, _ := mem.Copy(m, 2, 2)
	f, _ := mem.Frame(m, 1)
	g, _ := mem.Frame(m, 3)
	for i, l := range [][]uint64{w.Words, z.Words, c.Words, f, g} {
		l = append(l, 5, 6, 7)
		for k := range l {
			l[k] = 9
		}
		if !same(m, filled(4)) || slices.Max(m.Words[:40][32:]) != 0 {
			t.Errorf("answer %d shares words with what was handed in", i)
		}
	}
	f, _ = mem.Frame(m, 1)
	g, _ = mem.Frame(m, 1)
	f[0] = ^g[0]
	if g[0] != m.Words[8] {
		t.Errorf("two answers share words")
	}
}

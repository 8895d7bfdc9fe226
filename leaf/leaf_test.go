package leaf_test

import (
	"bytes"
	"hash/crc32"
	"math"
	"math/bits"
	"slices"
	"testing"

	"sheaf/api"
	"sheaf/burst"
	"sheaf/leaf"
)

// numbers are how many bytes of a block stand ahead of its sum.
const numbers = api.Block - 4

// noise is n bytes of no pattern.
func noise(n int, seed uint64) []byte {
	b := make([]byte, n)
	for i := range b {
		seed = seed*6364136223846793005 + 1442695040888963407
		b[i] = byte(seed >> 56)
	}
	return b
}

// made is a leaf of all of load.
func made(kind, file, place, next int, load []byte) api.Leaf {
	l := api.Leaf{Kind: kind, File: file, Place: place, Next: next, Size: len(load)}
	copy(l.Load[:], load)
	return l
}

// loads are no bytes, one, all but one, all, noughts within the size at its
// front, in its midst and at its end, noughts alone, and noise of each size.
func loads() [][]byte {
	l := [][]byte{nil, {0}, {1}, {255}, []byte("ab"), {0, 1}, {1, 0}, {1, 0, 0, 2}, {0, 0, 7, 0, 0}}
	for _, n := range []int{2, 115, 116} {
		l = append(l, make([]byte, n), bytes.Repeat([]byte{255}, n))
	}
	for n := range api.Load + 1 {
		l = append(l, noise(n, uint64(n)))
	}
	return l
}

// rights are right leaves: both kinds, each number at its ends and within, each
// load.
func rights() []api.Leaf {
	ends := []int{0, 1, 255, 256, 258, 4660, 32768, 65279, 65280, 65534, 65535}
	var l []api.Leaf
	for _, kind := range []int{api.KData, api.KCatalog} {
		for _, n := range ends {
			for _, load := range [][]byte{nil, []byte("ab"), noise(api.Load, 3)} {
				l = append(l, made(kind, n, 5, 6, load), made(kind, 5, n, 6, load), made(kind, 5, 6, n, load), made(kind, n, n, n, load))
			}
		}
		for i, load := range loads() {
			l = append(l, made(kind, 1+i, 300+i, 70*i, load))
		}
	}
	return l
}

// wrongs are leaves that are wrong in one thing each.
func wrongs() []api.Leaf {
	var l []api.Leaf
	wrong := func(f func(*api.Leaf)) {
		for _, kind := range []int{api.KData, api.KCatalog} {
			w := made(kind, 5, 6, 7, []byte("ab"))
			f(&w)
			l = append(l, w)
		}
	}
	for _, n := range []int{math.MinInt, -256, -2, -1, 0, 3, 4, 255, 256, 257, 258, 1<<32 + 1, math.MaxInt} {
		wrong(func(w *api.Leaf) { w.Kind = n })
	}
	for _, n := range []int{math.MinInt, -65536, -65535, -2, -1, 65536, 65537, 131071, 1 << 31, 1 << 32, 1<<32 + 5, 1 << 62, math.MaxInt} {
		wrong(func(w *api.Leaf) { w.File = n })
		wrong(func(w *api.Leaf) { w.Place = n })
		wrong(func(w *api.Leaf) { w.Next = n })
	}
	for _, n := range []int{math.MinInt, -256, -254, -2, -1, 0, 1, 117, 118, 128, 255, 256, 258, 1<<32 + 2, math.MaxInt} {
		wrong(func(w *api.Leaf) { w.Size = n })
	}
	for i := 2; i < api.Load; i++ {
		for _, c := range []byte{1, 128, 255} {
			wrong(func(w *api.Leaf) { w.Load[i] = c })
		}
	}
	wrong(func(w *api.Leaf) { w.Size, w.Load = 115, [api.Load]byte(bytes.Repeat([]byte{1}, api.Load)) })
	return append(l, api.Leaf{})
}

// block is l as the chapter writes it, by another way than the package's.
func block(l api.Leaf) []byte {
	b := slices.Clone(l.Load[:])
	for _, n := range []int{l.File, l.Place, l.Next} {
		b = append(b, byte(n%256), byte(n/256))
	}
	return summed(append(b, byte(l.Size), byte(l.Kind)))
}

// summed is b with its CRC-32 behind it, the lowest byte first.
func summed(b []byte) []byte {
	sum := crc32.ChecksumIEEE(b)
	return append(slices.Clone(b), byte(sum), byte(sum>>8), byte(sum>>16), byte(sum>>24))
}

// isNone holds that Get answers zero and false.
func isNone(t *testing.T, what string, b []byte) {
	t.Helper()
	if l, ok := leaf.Get(b); ok || l != (api.Leaf{}) {
		t.Fatalf("%s: Get(%v) = %v, %v", what, b, l, ok)
	}
}

// P5.2, P5.3.
func TestRunsOfTheChapter(t *testing.T) {
	l := made(api.KData, 258, 1, 3, []byte("ab"))
	b := leaf.Put(l)
	if len(b) != api.Block {
		t.Fatalf("%d bytes", len(b))
	}
	got := append(slices.Clone(b[:2]), b[116:124]...)
	if want := []byte{0x61, 0x62, 2, 1, 1, 0, 3, 0, 2, 1}; !bytes.Equal(got, want) {
		t.Errorf("bytes 0, 1, 116 to 123 are %x, not %x", got, want)
	}
	if !bytes.Equal(b[2:116], make([]byte, 114)) {
		t.Errorf("bytes 2 to 115 are %x", b[2:116])
	}
	if back, ok := leaf.Get(b); !ok || back != l {
		t.Errorf("Get = %v, %v", back, ok)
	}
}

// P5.1.
func TestRight(t *testing.T) {
	for _, l := range rights() {
		if !leaf.Right(l) {
			t.Fatalf("%v isn't right", l)
		}
	}
}

// P5.1: wrong inputs.
func TestRightOfWrongLeaves(t *testing.T) {
	for _, l := range wrongs() {
		if leaf.Right(l) {
			t.Fatalf("%v is right", l)
		}
	}
}

// P5.1: each size, with a byte that is no nought at each place.
func TestRightLooksBehindTheSize(t *testing.T) {
	for size := range api.Load + 1 {
		for i := range api.Load {
			l := api.Leaf{Kind: api.KData, Size: size}
			l.Load[i] = 1
			if got, want := leaf.Right(l), i < size; got != want {
				t.Fatalf("size %d, byte %d is 1: %v", size, i, got)
			}
		}
	}
}

// P5.2.
func TestPut(t *testing.T) {
	for _, l := range rights() {
		if got, want := leaf.Put(l), block(l); !bytes.Equal(got, want) {
			t.Fatalf("Put(%v) = %v, not %v", l, got, want)
		}
	}
}

// P5.2: wrong inputs.
func TestPutOfWrongLeaves(t *testing.T) {
	for _, l := range wrongs() {
		if b := leaf.Put(l); len(b) != 0 {
			t.Fatalf("Put(%v) = %v", l, b)
		}
	}
}

// P5.2: all of an answer, its spare room too, is the caller's.
func TestPutIsNewMemory(t *testing.T) {
	for _, l := range rights() {
		first, second := leaf.Put(l), leaf.Put(l)
		whole := first[:cap(first)]
		for i := range whole {
			whole[i] ^= 255
		}
		if want := block(l); !bytes.Equal(second, want) || !bytes.Equal(leaf.Put(l), want) {
			t.Fatalf("blocks of %v share memory", l)
		}
	}
}

// P5.3.
func TestGet(t *testing.T) {
	for _, l := range rights() {
		for _, b := range [][]byte{leaf.Put(l), block(l)} {
			if got, ok := leaf.Get(b); !ok || got != l {
				t.Fatalf("Get of %v = %v, %v", l, got, ok)
			}
		}
	}
}

// P5.3: the bytes are only read, not the room behind them, and not kept.
func TestGetOnlyReads(t *testing.T) {
	for _, l := range rights() {
		room := append(block(l), noise(9, 7)...)
		kept := slices.Clone(room)
		got, ok := leaf.Get(room[:api.Block])
		if !ok || got != l || !bytes.Equal(room, kept) {
			t.Fatalf("Get of %v = %v, %v", l, got, ok)
		}
		for i := range room {
			room[i] ^= 255
		}
		if got != l {
			t.Fatalf("Get of %v shares the bytes' memory", l)
		}
	}
}

// P5.3: wrong inputs: none, fewer and more bytes, with sums that fit too.
func TestGetOfOtherLengths(t *testing.T) {
	isNone(t, "nil", nil)
	isNone(t, "empty", []byte{})
	for _, l := range []api.Leaf{made(api.KData, 258, 1, 3, []byte("ab")), made(api.KCatalog, 0, 0, 0, nil), made(api.KData, 1, 1, 1, noise(api.Load, 2))} {
		b := block(l)
		for n := range api.Block {
			isNone(t, "fewer bytes", b[:n])
			isNone(t, "fewer bytes at the front", b[api.Block-n:])
		}
		isNone(t, "one more", append(slices.Clone(b), 0))
		isNone(t, "one more ahead", append([]byte{0}, b...))
		isNone(t, "two of them", append(slices.Clone(b), b...))
		isNone(t, "closed again", summed(b))
		isNone(t, "one fewer, closed", summed(b[:numbers-1]))
		isNone(t, "one fewer at the front, closed", summed(b[1:numbers]))
		isNone(t, "one more, closed", summed(append(slices.Clone(b[:numbers]), 0)))
		isNone(t, "one more ahead, closed", summed(append([]byte{0}, b[:numbers]...)))
	}
}

// P5.3: wrong inputs: sums that fit, over leaves that aren't right.
func TestGetOfSumsThatFit(t *testing.T) {
	isNone(t, "noughts", summed(make([]byte, numbers)))
	isNone(t, "ones", summed(bytes.Repeat([]byte{255}, numbers)))
	for _, l := range []api.Leaf{made(api.KData, 258, 1, 3, []byte("ab")), made(api.KCatalog, 65535, 0, 9, nil), made(api.KData, 1, 1, 1, noise(api.Load-1, 2))} {
		for c := range 256 {
			b := block(l)[:numbers]
			b[123] = byte(c)
			if c != api.KData && c != api.KCatalog {
				isNone(t, "kind", summed(b))
			}
			b = block(l)[:numbers]
			b[122] = byte(c)
			if c < l.Size || c > api.Load {
				isNone(t, "size", summed(b))
			}
			for i := l.Size; i < api.Load && c > 0; i++ {
				b = block(l)[:numbers]
				b[i] = byte(c)
				isNone(t, "behind the size", summed(b))
			}
		}
	}
}

// P5.3: Get says yes of what Put makes alone.
func TestGetOfClosedNoise(t *testing.T) {
	good := 0
	for seed := range uint64(4000) {
		b := noise(numbers, seed)
		b[122], b[123] = byte(114+seed%4), byte(seed/4%4)
		if seed%3 == 0 {
			b[114], b[115] = 0, 0
		}
		closed := burst.Close(b)
		l, ok := leaf.Get(closed)
		if ok != leaf.Right(l) || ok && !bytes.Equal(leaf.Put(l), closed) || !ok && l != (api.Leaf{}) {
			t.Fatalf("Get(%v) = %v, %v", closed, l, ok)
		}
		if ok {
			good++
		}
	}
	if good == 0 || good == 4000 {
		t.Fatalf("%d of 4000 are leaves", good)
	}
}

// P5.3: wrong inputs: blocks without their sum.
func TestGetOfOtherSums(t *testing.T) {
	isNone(t, "noughts", make([]byte, api.Block))
	isNone(t, "ones", bytes.Repeat([]byte{255}, api.Block))
	isNone(t, "noise", noise(api.Block, 1))
	b := block(made(api.KData, 258, 1, 3, []byte("ab")))
	other := block(made(api.KData, 258, 1, 4, []byte("ab")))
	isNone(t, "another's sum", append(slices.Clone(b[:numbers]), other[numbers:]...))
	isNone(t, "the sum's other order", append(slices.Clone(b[:numbers]), b[127], b[126], b[125], b[124]))
	isNone(t, "no sum", append(slices.Clone(b[:numbers]), 0, 0, 0, 0))
}

// turned is b with the bits of x turned, x's lowest one at bit at of b, counted
// from the lowest bit of the first byte on.
func turned(b []byte, at int, x uint32) []byte {
	c := slices.Clone(b)
	for k := range 32 {
		if x>>k&1 == 1 {
			c[(at+k)/8] ^= 1 << ((at + k) % 8)
		}
	}
	return c
}

// P5.4: bursts of 1, 2 and 32 bits, and some between, at each bit: the front, the
// end, and the border between a number and the sum among them.
func TestBurstsAreNone(t *testing.T) {
	patterns := []uint32{1, 3, 7, 0xff, 0x1ff, 0xffff, 0x8001, 0x7fffffff, 0xffffffff, 0x80000001, 0xaaaaaaab, api.Poly | 1}
	for seed := range uint32(20) {
		patterns = append(patterns, (seed*2654435769+12345)>>(seed%31)|1)
	}
	for _, l := range []api.Leaf{
		made(api.KData, 258, 1, 3, []byte("ab")),
		made(api.KData, 0, 0, 0, nil),
		made(api.KCatalog, 65535, 65535, 65535, noise(api.Load, 4)),
	} {
		b := leaf.Put(l)
		for _, x := range patterns {
			for at := range 8*api.Block - bits.Len32(x) + 1 {
				isNone(t, "burst", turned(b, at, x))
			}
		}
	}
}

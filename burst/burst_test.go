package burst_test

import (
	"bytes"
	"hash/crc32"
	"math/bits"
	"slices"
	"testing"

	"sheaf/burst"
)

// noise is n bytes of no pattern.
func noise(n int, seed uint64) []byte {
	b := make([]byte, n)
	for i := range b {
		seed = seed*6364136223846793005 + 1442695040888963407
		b[i] = byte(seed >> 56)
	}
	return b
}

// allBytes is each byte once, in rising order.
func allBytes() []byte {
	b := make([]byte, 256)
	for i := range b {
		b[i] = byte(i)
	}
	return b
}

// inputs are no bytes, each byte alone, bytes of all values, noughts and ones of
// several lengths, a block's length and those beside it, and noise.
func inputs() [][]byte {
	l := [][]byte{nil, {}, allBytes(), []byte("123456789"), []byte("ab")}
	for i := range 256 {
		l = append(l, []byte{byte(i)})
	}
	for _, n := range []int{2, 3, 4, 5, 8, 123, 124, 125, 128, 1000} {
		l = append(l, make([]byte, n), bytes.Repeat([]byte{255}, n), noise(n, uint64(n)))
	}
	return l
}

// turned is b with the bits of x turned, x's lowest one at bit at of b, counted
// from the lowest bit of the first byte on.
func turned(b []byte, at int, x uint32) []byte {
	c := slices.Clone(b)
	for k := range 32 {
		if x>>k&1 == 1 {
			c[(at+k)/8] ^= 1 << ((at + k) % 8)
		}
	}
	return c
}

// P3.1, P3.2, P3.3.
func TestRunsOfTheChapter(t *testing.T) {
	if got := burst.Sum([]byte("123456789")); got != 0xcbf43926 {
		t.Errorf("Sum(123456789) = %x", got)
	}
	if got := burst.Sum(nil); got != 0 {
		t.Errorf("Sum of none = %x", got)
	}
	closed := burst.Close([]byte("ab"))
	if !burst.Good(closed) {
		t.Error("Close(ab) isn't good")
	}
	for bit := range 8 * len(closed) {
		if burst.Good(turned(closed, bit, 1)) {
			t.Errorf("Close(ab) is good with bit %d turned", bit)
		}
	}
}

// P3.1.
func TestSumIsCRC32(t *testing.T) {
	for _, b := range inputs() {
		if got, want := burst.Sum(b), crc32.ChecksumIEEE(b); got != want {
			t.Fatalf("Sum(%v) = %x, not %x", b, got, want)
		}
	}
}

// P3.1: noughts ahead and behind are not lost.
func TestSumTellsLengthsApart(t *testing.T) {
	seen := map[uint32]int{}
	for n := range 300 {
		sum := burst.Sum(make([]byte, n))
		if other, ok := seen[sum]; ok {
			t.Fatalf("%d and %d noughts have one sum, %x", other, n, sum)
		}
		seen[sum] = n
	}
}

// P3.1, P3.2: what is handed in stays, and room behind it isn't read.
func TestInputsAreOnlyRead(t *testing.T) {
	for _, b := range inputs() {
		room := append(slices.Clone(b), noise(9, 7)...)
		kept := slices.Clone(room)
		in := room[:len(b)]
		if burst.Sum(in) != burst.Sum(b) || !bytes.Equal(burst.Close(in), burst.Close(b)) || burst.Good(in) != burst.Good(b) {
			t.Fatalf("room behind %v is read", b)
		}
		if !bytes.Equal(room, kept) {
			t.Fatalf("%v or the room behind it was changed", b)
		}
	}
}

// P3.2.
func TestCloseHasTheSumBehind(t *testing.T) {
	for _, b := range inputs() {
		sum := crc32.ChecksumIEEE(b)
		want := append(slices.Clone(b), byte(sum), byte(sum>>8), byte(sum>>16), byte(sum>>24))
		if got := burst.Close(b); !bytes.Equal(got, want) {
			t.Fatalf("Close(%v) = %v, not %v", b, got, want)
		}
	}
}

// P3.2: all of an answer, its spare room too, is the caller's.
func TestCloseIsNewMemory(t *testing.T) {
	for _, b := range inputs() {
		room := make([]byte, len(b)+20)
		copy(room, b)
		kept := slices.Clone(room)
		first, second := burst.Close(room[:len(b)]), burst.Close(room[:len(b)])
		whole := first[:cap(first)]
		for i := range whole {
			whole[i] ^= 255
		}
		if !bytes.Equal(room, kept) || !bytes.Equal(second, burst.Close(b)) {
			t.Fatalf("Close(%v) shares memory", b)
		}
	}
}

// P3.2.
func TestGoodOfClosedBytes(t *testing.T) {
	for _, b := range inputs() {
		closed := burst.Close(b)
		if !burst.Good(closed) {
			t.Fatalf("Close(%v) isn't good", b)
		}
		if again := burst.Close(closed); !burst.Good(again) {
			t.Fatalf("Close(%v) isn't good", closed)
		}
	}
	if !burst.Good([]byte{0, 0, 0, 0}) {
		t.Error("four noughts are no bytes and their sum")
	}
}

// P3.2: wrong inputs.
func TestGoodOfTooFewBytes(t *testing.T) {
	if burst.Good(nil) || burst.Good([]byte{}) {
		t.Error("no bytes are good")
	}
	for n := range 4 {
		for _, c := range allBytes() {
			if burst.Good(bytes.Repeat([]byte{c}, n)) {
				t.Errorf("%d bytes %d are good", n, c)
			}
		}
	}
	closed := burst.Close(nil)
	for n := range len(closed) {
		if burst.Good(closed[:n]) {
			t.Errorf("%d bytes are good by the room behind them", n)
		}
	}
}

// P3.2: wrong inputs: the last four bytes are another's sum, or in another order.
func TestGoodOfAnotherSum(t *testing.T) {
	for _, b := range inputs() {
		closed := burst.Close(b)
		end := len(b)
		for i := range 4 {
			for x := 1; x < 256; x++ {
				wrong := slices.Clone(closed)
				wrong[end+i] ^= byte(x)
				if burst.Good(wrong) {
					t.Fatalf("%v is good, byte %d of its sum turned by %d", wrong, i, x)
				}
			}
		}
	}
	sum := crc32.ChecksumIEEE([]byte("123456789"))
	for _, wrong := range [][]byte{
		{byte(sum >> 24), byte(sum >> 16), byte(sum >> 8), byte(sum)},
		{byte(^sum), byte(^sum >> 8), byte(^sum >> 16), byte(^sum >> 24)},
		{0, 0, 0, 0},
	} {
		if burst.Good(append([]byte("123456789"), wrong...)) {
			t.Errorf("123456789 is good with %v", wrong)
		}
	}
	for _, b := range [][]byte{make([]byte, 5), make([]byte, 128), {0, 0, 0, 1}, {1, 0, 0, 0}, allBytes()} {
		if burst.Good(b) {
			t.Errorf("%v is good", b)
		}
	}
}

// patterns are bursts of one bit to 32 bits: both ends alone, all of them, and
// some of no pattern; the polynomial, which is the first that could be missed,
// among them.
func patterns() []uint32 {
	l := []uint32{0xedb88320, 0x82608edb, 0xdb710641, 0x04c11db7, 0x80000001, 0x80000003, 0xaaaaaaaa, 0x55555555}
	for n := range 32 {
		last := uint32(1) << n
		l = append(l, last|1, last|(last-1))
	}
	for i, x := 0, uint64(3); i < 64; i++ {
		x = x*6364136223846793005 + 1442695040888963407
		l = append(l, uint32(x>>32)>>(i%32)|1)
	}
	return l
}

// P3.3: at each bit, from the first one to the last one, over the bounds of
// bytes and of the sum.
func TestBurstsAreFound(t *testing.T) {
	for _, b := range [][]byte{nil, {0}, {255}, []byte("ab"), make([]byte, 12), bytes.Repeat([]byte{255}, 12), noise(124, 5)} {
		closed := burst.Close(b)
		for _, x := range patterns() {
			for at := range 8*len(closed) - bits.Len32(x) + 1 {
				if burst.Good(turned(closed, at, x)) {
					t.Fatalf("%x at bit %d of %v isn't found", x, at, closed)
				}
			}
		}
	}
}

// P3.3: 33 bits are where it ends: the polynomial whole is a burst that no sum of
// this kind finds, so the order of the bits is the one that is promised.
func TestBitsGoFromTheLowestOn(t *testing.T) {
	closed := burst.Close(noise(20, 9))
	for at := range 8*len(closed) - 33 {
		// Poly's highest power is its lowest bit; one more stands for the power 32.
		c := turned(turned(closed, at, 1), at+1, 0xedb88320)
		if !burst.Good(c) {
			t.Fatalf("bit %d: a multiple of the polynomial is told apart", at)
		}
	}
}

package disk_test

import (
	"bytes"
	"math"
	"slices"
	"testing"

	"sheaf/api"
	"sheaf/disk"
)

// unread stands for a block that can't be read.
const unread = -1

// fill is a block of one byte.
func fill(x byte) []byte { return bytes.Repeat([]byte{x}, api.Block) }

// noise is a block of no pattern.
func noise(seed uint64) []byte {
	b := make([]byte, api.Block)
	for i := range b {
		seed = seed*6364136223846793005 + 1442695040888963407
		b[i] = byte(seed >> 56)
	}
	return b
}

// made is a disk of n blocks.
func made(t *testing.T, n int) *disk.Disk {
	t.Helper()
	d := disk.New(n)
	if d == nil {
		t.Fatalf("New(%d) is nil", n)
	}
	return d
}

// write writes blocks of one byte: places and bytes by turns.
func write(t *testing.T, d *disk.Disk, l ...int) {
	t.Helper()
	for i := 0; i < len(l); i += 2 {
		if s := d.Write(l[i], fill(byte(l[i+1]))); s != api.OK {
			t.Fatalf("write %d of block %d answers %v", i/2, l[i], s)
		}
	}
}

func flush(t *testing.T, d *disk.Disk) {
	t.Helper()
	if s := d.Flush(); s != api.OK {
		t.Fatalf("Flush answers %v", s)
	}
}

// reads holds what the first blocks read as against blocks of one byte, or
// unread.
func reads(t *testing.T, d *disk.Disk, want ...int) {
	t.Helper()
	for i, w := range want {
		b, ok := d.Read(i)
		if w == unread {
			if ok || len(b) != 0 {
				t.Fatalf("block %d reads as %v, %v, not as none", i, b, ok)
			}
		} else if !ok || !bytes.Equal(b, fill(byte(w))) {
			t.Fatalf("block %d reads as %v, %v, not as bytes of %d", i, b, ok, w)
		}
	}
}

// counts holds Waits and Wrote against what is wanted.
func counts(t *testing.T, d *disk.Disk, waits, wrote int) {
	t.Helper()
	if d.Waits() != waits || d.Wrote() != wrote {
		t.Fatalf("%d wait, %d went, not %d and %d", d.Waits(), d.Wrote(), waits, wrote)
	}
}

// P4.2, P4.3, P4.4.
func TestRunsOfTheChapter(t *testing.T) {
	d := made(t, 2)
	write(t, d, 0, 5)
	d.Boot(0)
	reads(t, d, 0, 0)
	write(t, d, 0, 5)
	d.Boot(2)
	reads(t, d, unread, 0)
	write(t, d, 0, 5)
	flush(t, d)
	d.Boot()
	reads(t, d, 5, 0)
}

// P4.1.
func TestNewIsNoughts(t *testing.T) {
	for _, n := range []int{1, 2, 3, 100, api.MaxBlocks - 1, api.MaxBlocks} {
		d := made(t, n)
		if d.Len() != n || d.Off() {
			t.Fatalf("New(%d): %d blocks, off: %v", n, d.Len(), d.Off())
		}
		counts(t, d, 0, 0)
		reads(t, d, make([]int, n)...)
		for range 3 * n {
			flush(t, d)
		}
		write(t, d, n-1, 4)
		reads(t, d, append(make([]int, n-1), 4)...)
	}
}

// P4.1: wrong inputs.
func TestNewOfNoNumberOfBlocks(t *testing.T) {
	for _, n := range []int{0, -1, -api.MaxBlocks, math.MinInt, api.MaxBlocks + 1, 1 << 16, math.MaxInt} {
		if disk.New(n) != nil {
			t.Errorf("New(%d) isn't nil", n)
		}
	}
}

// P4.1: a twin has the blocks, what is torn, what waits, the counts, the power
// and the fuse.
func TestTwinIsTheSame(t *testing.T) {
	d := made(t, 4)
	write(t, d, 0, 1, 1, 1)
	flush(t, d)
	write(t, d, 2, 2)
	d.Boot(2)
	write(t, d, 1, 3, 3, 4)
	d.Arm(1)
	u := d.Twin()
	for _, one := range []*disk.Disk{d, u} {
		if one.Len() != 4 || one.Off() {
			t.Fatal("a twin differs in length or power")
		}
		counts(t, one, 2, 5)
		reads(t, one, 1, 3, unread, 4)
		flush(t, one)
		if one.Off() || one.Flush() != api.Down || !one.Off() {
			t.Fatal("a twin's fuse differs")
		}
	}
	dark := d.Twin()
	if !dark.Off() || dark.Write(0, fill(9)) != api.Down {
		t.Error("a twin of a disk without power has some")
	}
	dark.Boot()
	reads(t, dark, 1, 3, unread, 4)
	counts(t, dark, 0, 5)
	reads(t, d, unread, unread, unread, unread)
}

// P4.1: whatever is done to one of them, the other stays.
func TestTwinsDoNotTouch(t *testing.T) {
	acts := []func(*disk.Disk){
		func(d *disk.Disk) { d.Write(0, fill(7)) },
		func(d *disk.Disk) { d.Flush() },
		func(d *disk.Disk) { d.Boot(1, 1) },
		func(d *disk.Disk) { d.Boot(2, 2) },
		func(d *disk.Disk) { d.Arm(0); d.Flush() },
		func(d *disk.Disk) { d.Boot(); d.Burst(0, 0, 9) },
		func(d *disk.Disk) { d.Flush(); d.Burst(1, 4, 9); d.Write(1, fill(8)) },
	}
	for k, act := range acts {
		for turn := range 2 {
			d := made(t, 3)
			write(t, d, 0, 1)
			flush(t, d)
			write(t, d, 1, 2, 2, 3, 2, 4)
			pair := []*disk.Disk{d, d.Twin()}
			act(pair[turn])
			other := pair[1-turn]
			reads(t, other, 1, 2, 4)
			counts(t, other, 3, 4)
			write(t, other, 1, 5)
			act(pair[turn])
			reads(t, other, 1, 5, 4)
			other.Boot(1, 1, 0, 0)
			reads(t, other, 1, 2, 3)
			if t.Failed() {
				t.Fatalf("act %d", k)
			}
		}
	}
}

// P4.1: room behind what waits isn't shared, however many writes wait.
func TestTwinsWaitApart(t *testing.T) {
	for n := range 40 {
		d := made(t, 2)
		for k := range n {
			write(t, d, 1, k)
		}
		u := d.Twin()
		write(t, d, 0, 101)
		write(t, u, 0, 102)
		reads(t, d, 101)
		reads(t, u, 102)
		flush(t, u)
		flush(t, d)
		reads(t, d, 101)
		reads(t, u, 102)
	}
}

// P4.2: a fuse of n lets n go, and the next one that is asked finds it out.
func TestFuseBurns(t *testing.T) {
	for n := range 6 {
		for _, flushes := range []bool{false, true} {
			d := made(t, 1)
			d.Arm(n)
			for k := range n {
				if (k%2 == 0) != flushes {
					write(t, d, 0, k+1)
				} else {
					flush(t, d)
				}
			}
			if d.Off() {
				t.Fatalf("a fuse of %d that is burnt takes the power", n)
			}
			before, _ := d.Read(0)
			waits, wrote := d.Waits(), d.Wrote()
			got := api.OK
			if flushes {
				got = d.Flush()
			} else {
				got = d.Write(0, fill(99))
			}
			if got != api.Down || !d.Off() {
				t.Fatalf("a fuse of %d: the next one answers %v, off: %v", n, got, d.Off())
			}
			counts(t, d, waits, wrote)
			reads(t, d, unread)
			d.Boot(1, 1, 1, 1, 1, 1)
			if after, _ := d.Read(0); !bytes.Equal(after, before) {
				t.Fatalf("a fuse of %d: what was asked too much was done", n)
			}
		}
	}
}

// P4.2: whatever is asked without power changes nothing.
func TestNothingGoesWithoutPower(t *testing.T) {
	d := made(t, 2)
	write(t, d, 0, 1)
	flush(t, d)
	d.Arm(1)
	write(t, d, 1, 2)
	if d.Write(0, fill(3)) != api.Down {
		t.Fatal("the power stays")
	}
	for range 3 {
		if d.Flush() != api.Down || d.Write(0, fill(4)) != api.Down || d.Write(1, fill(4)) != api.Down || !d.Off() {
			t.Fatal("something goes without power")
		}
		if d.Write(2, fill(4)) != api.BadParams || d.Write(-1, fill(4)) != api.BadParams || d.Write(0, fill(4)[:5]) != api.BadParams {
			t.Fatal("wrong inputs are told first")
		}
		reads(t, d, unread, unread)
		counts(t, d, 1, 2)
		if d.Len() != 2 {
			t.Fatal("the length hangs on the power")
		}
	}
	d.Boot(0)
	reads(t, d, 1, 0)
	counts(t, d, 0, 2)
}

// P4.2, P4.4: a fuse doesn't bring the power back.
func TestArmWithoutPower(t *testing.T) {
	for _, n := range []int{-1, 0, 1, 9, math.MaxInt} {
		d := made(t, 1)
		d.Arm(0)
		d.Flush()
		d.Arm(n)
		if !d.Off() || d.Flush() != api.Down || d.Write(0, fill(1)) != api.Down {
			t.Fatalf("Arm(%d) brings the power back", n)
		}
		d.Boot()
		for range 12 {
			flush(t, d)
		}
	}
}

// P4.2: wrong inputs burn nothing, and don't find a burnt fuse out.
func TestWrongWritesBurnNothing(t *testing.T) {
	wrong := func(d *disk.Disk) {
		t.Helper()
		for _, i := range []int{-1, 3, 4, api.MaxBlocks, math.MinInt, math.MaxInt} {
			if s := d.Write(i, fill(1)); s != api.BadParams {
				t.Fatalf("block %d of 3: %v", i, s)
			}
		}
		for _, n := range []int{0, 1, api.Load, api.Block - 1, api.Block + 1, 2 * api.Block} {
			if s := d.Write(0, make([]byte, n)); s != api.BadParams {
				t.Fatalf("%d bytes: %v", n, s)
			}
		}
		if s := d.Write(0, nil); s != api.BadParams {
			t.Fatalf("nil: %v", s)
		}
		if s := d.Write(0, fill(1)[:api.Block-1]); s != api.BadParams {
			t.Fatalf("bytes by the room behind them: %v", s)
		}
	}
	d := made(t, 3)
	wrong(d)
	d.Arm(2)
	wrong(d)
	write(t, d, 2, 1)
	wrong(d)
	write(t, d, 0, 2)
	wrong(d)
	if d.Off() {
		t.Fatal("a wrong write takes the power")
	}
	counts(t, d, 2, 2)
	reads(t, d, 2, 0, 1)
	if d.Flush() != api.Down {
		t.Fatal("the fuse grew")
	}
	wrong(d)
}

// P4.2, P4.3: writes wait, and are read, in their order.
func TestWritesWaitInTheirOrder(t *testing.T) {
	d := made(t, 3)
	write(t, d, 1, 1, 0, 2, 1, 3, 1, 4, 0, 5)
	reads(t, d, 5, 4, 0)
	counts(t, d, 5, 5)
	u := d.Twin()
	u.Boot()
	reads(t, u, 0, 0, 0)
	flush(t, d)
	counts(t, d, 0, 5)
	reads(t, d, 5, 4, 0)
	write(t, d, 1, 6)
	flush(t, d)
	flush(t, d)
	reads(t, d, 5, 6, 0)
}

// P4.3: no such block.
func TestReadOfNoBlock(t *testing.T) {
	for _, n := range []int{1, 3, api.MaxBlocks} {
		d := made(t, n)
		for _, i := range []int{-1, n, n + 1, math.MinInt, math.MaxInt} {
			if b, ok := d.Read(i); ok || len(b) != 0 {
				t.Errorf("block %d of %d reads as %v, %v", i, n, b, ok)
			}
		}
	}
}

// P4.3: a torn block reads as what waits for it.
func TestReadOfATornBlock(t *testing.T) {
	d := made(t, 2)
	write(t, d, 0, 1)
	d.Boot(2)
	reads(t, d, unread, 0)
	write(t, d, 1, 2)
	reads(t, d, unread, 2)
	write(t, d, 0, 3)
	reads(t, d, 3, 2)
	write(t, d, 0, 4)
	reads(t, d, 4, 2)
	d.Boot(1)
	reads(t, d, unread, 2)
}

// P4.4.
func TestArm(t *testing.T) {
	d := made(t, 1)
	for _, n := range []int{-1, -7, math.MinInt} {
		d.Arm(2)
		d.Arm(n)
		for range 20 {
			flush(t, d)
		}
	}
	d.Arm(math.MaxInt)
	for range 20 {
		flush(t, d)
	}
	// A new fuse takes the elder one's place, burnt or not.
	d.Arm(1)
	flush(t, d)
	d.Arm(3)
	flush(t, d)
	flush(t, d)
	d.Arm(2)
	flush(t, d)
	flush(t, d)
	if d.Off() || d.Flush() != api.Down || !d.Off() {
		t.Error("Arm(2) lets others than two go")
	}
	d.Boot()
	if d.Off() {
		t.Error("Boot leaves the power off")
	}
	d.Arm(0)
	if d.Off() || d.Write(0, fill(1)) != api.Down || !d.Off() {
		t.Error("Arm(0) lets one go")
	}
	counts(t, d, 0, 0)
}

// P4.4: reading, bursts and counting burn nothing.
func TestOnlyWritesAndFlushesBurn(t *testing.T) {
	d := made(t, 1)
	d.Arm(1)
	for range 5 {
		reads(t, d, 0)
		d.Burst(0, 0, 0)
		d.Burst(9, 0, 1)
		d.Twin()
		counts(t, d, 0, 0)
		if d.Off() || d.Len() != 1 {
			t.Fatal("a fuse burnt")
		}
	}
	flush(t, d)
	reads(t, d, 0)
	if d.Off() {
		t.Error("reading takes the power")
	}
}

// P4.4: what becomes of one write, by each byte.
func TestBootByEachByte(t *testing.T) {
	for how := range 256 {
		d := made(t, 2)
		write(t, d, 0, 1, 1, 2)
		flush(t, d)
		write(t, d, 0, 9)
		d.Boot(byte(how))
		reads(t, d, []int{1, 9, unread}[how%3], 2)
		counts(t, d, 0, 3)
	}
}

// P4.4: each choice for five writes of two blocks, held against the last one of
// each block that isn't lost.
func TestBootByEachChoice(t *testing.T) {
	places := []int{0, 1, 0, 0, 1}
	for choice := range 3 * 3 * 3 * 3 * 3 {
		for kept := range len(places) + 1 {
			for _, torn := range []bool{false, true} {
				d, want := madeTorn(t, torn)
				var how []byte
				for k, rest := 0, choice; k < len(places); k, rest = k+1, rest/3 {
					write(t, d, places[k], 10+k)
					how = append(how, byte(rest%3+3*(k%5)))
				}
				for k, h := range how[:kept] {
					if h%3 == 1 {
						want[places[k]] = 10 + k
					} else if h%3 == 2 {
						want[places[k]] = unread
					}
				}
				d.Boot(how[:kept]...)
				reads(t, d, want...)
				if d.Waits() != 0 || d.Off() {
					t.Fatal("something waits behind a boot, or the power is off")
				}
			}
		}
	}
}

// madeTorn is a disk of three blocks, of which two are torn if that is asked,
// and what it reads as.
func madeTorn(t *testing.T, torn bool) (*disk.Disk, []int) {
	t.Helper()
	d := made(t, 3)
	write(t, d, 0, 1, 1, 2, 2, 3)
	flush(t, d)
	if !torn {
		return d, []int{1, 2, 3}
	}
	write(t, d, 0, 4, 1, 5)
	d.Boot(2, 2)
	return d, []int{unread, unread, 3}
}

// P4.4: fewer bytes than there are waiting writes, and more.
func TestBootWithFewerAndMoreBytes(t *testing.T) {
	d := made(t, 3)
	write(t, d, 0, 1, 1, 2, 2, 3)
	d.Boot(1, 1)
	reads(t, d, 1, 2, 0)
	write(t, d, 0, 4, 1, 5, 2, 6)
	d.Boot()
	reads(t, d, 1, 2, 0)
	write(t, d, 0, 7)
	d.Boot(nil...)
	reads(t, d, 1, 2, 0)
	write(t, d, 2, 8)
	d.Boot(1, 2, 2, 2, 1)
	reads(t, d, 1, 2, 8)
	// A byte too many isn't kept for the next write.
	write(t, d, 0, 9)
	d.Boot()
	reads(t, d, 1, 2, 8)
	d.Boot(2, 2, 2)
	reads(t, d, 1, 2, 8)
	counts(t, d, 0, 9)
}

// P4.4: a boot ends a fuse and brings the power back, with the power on too.
func TestBootEndsTheFuse(t *testing.T) {
	for _, asked := range []int{0, 1, 2, 3} {
		d := made(t, 1)
		d.Arm(2)
		for range asked {
			d.Flush()
		}
		d.Boot()
		if d.Off() {
			t.Fatal("no power behind a boot")
		}
		for range 9 {
			flush(t, d)
		}
	}
}

// P4.4: a torn block that is written, flushed, or booted again.
func TestTornBlocks(t *testing.T) {
	d := made(t, 2)
	write(t, d, 0, 1)
	flush(t, d)
	write(t, d, 0, 2)
	d.Boot(2)
	reads(t, d, unread, 0)
	flush(t, d)
	reads(t, d, unread, 0)
	d.Boot()
	d.Boot(0, 1, 2)
	reads(t, d, unread, 0)
	write(t, d, 0, 3)
	reads(t, d, 3, 0)
	d.Boot(0)
	reads(t, d, unread, 0)
	write(t, d, 0, 4)
	d.Boot(2)
	reads(t, d, unread, 0)
	write(t, d, 0, 5)
	d.Boot(1)
	reads(t, d, 5, 0)
	write(t, d, 0, 6)
	d.Boot(2)
	write(t, d, 0, 7)
	flush(t, d)
	reads(t, d, 7, 0)
	write(t, d, 0, 8)
	d.Boot(0)
	reads(t, d, 7, 0)
}

// P4.5: at each byte, the lowest byte of x first.
func TestBurst(t *testing.T) {
	for at := range api.Block - 3 {
		for _, x := range []uint32{0, 1, 0x80000000, 0x04030201, 0xedb88320, math.MaxUint32} {
			d := made(t, 3)
			was := noise(uint64(at))
			d.Write(1, was)
			flush(t, d)
			if !d.Burst(1, at, x) {
				t.Fatalf("Burst(1, %d, %x) is false", at, x)
			}
			want := slices.Clone(was)
			for k, c := range []byte{byte(x), byte(x >> 8), byte(x >> 16), byte(x >> 24)} {
				want[at+k] ^= c
			}
			if got, ok := d.Read(1); !ok || !bytes.Equal(got, want) {
				t.Fatalf("Burst(1, %d, %x) makes %v of %v", at, x, got, was)
			}
			reads(t, d, 0)
			counts(t, d, 0, 1)
			d.Boot(2)
			d.Burst(1, at, x)
			if got, ok := d.Read(1); !ok || !bytes.Equal(got, was) {
				t.Fatalf("Burst(1, %d, %x) twice makes %v of %v", at, x, got, was)
			}
		}
	}
}

// P4.5: wrong inputs.
func TestBurstOutOfItsBounds(t *testing.T) {
	d := made(t, 2)
	write(t, d, 0, 1, 1, 2)
	flush(t, d)
	for _, i := range []int{-1, 2, 3, api.MaxBlocks, math.MinInt, math.MaxInt} {
		if d.Burst(i, 0, 1) {
			t.Errorf("Burst of block %d of 2", i)
		}
	}
	for _, at := range []int{-1, -4, api.Block - 3, api.Block - 1, api.Block, math.MinInt, math.MaxInt, math.MaxInt - 3} {
		if d.Burst(0, at, math.MaxUint32) || d.Burst(1, at, 0) {
			t.Errorf("Burst at %d", at)
		}
	}
	reads(t, d, 1, 2)
}

// P4.5: a burst while something waits, for that block or for another.
func TestBurstWhileSomethingWaits(t *testing.T) {
	d := made(t, 2)
	write(t, d, 0, 1)
	if d.Burst(0, 0, 1) || d.Burst(1, 0, 1) {
		t.Error("a burst while something waits")
	}
	d.Boot()
	reads(t, d, 0, 0)
	if !d.Burst(1, 0, 1) || !d.Burst(1, 0, 1) {
		t.Error("no burst behind a boot")
	}
	write(t, d, 0, 1)
	flush(t, d)
	if !d.Burst(0, 0, 0x01010101) {
		t.Error("no burst behind a flush")
	}
	if b, _ := d.Read(0); !bytes.Equal(b[:5], []byte{0, 0, 0, 0, 1}) {
		t.Error(b)
	}
}

// P4.5: a block decays without power too, and a torn one stays torn.
func TestBurstWithoutPowerAndOfATornBlock(t *testing.T) {
	d := made(t, 2)
	d.Arm(0)
	d.Flush()
	if !d.Burst(0, 8, 3) || !d.Off() {
		t.Error("no burst without power")
	}
	d.Boot()
	if b, ok := d.Read(0); !ok || b[8] != 3 {
		t.Error("the burst isn't there")
	}
	write(t, d, 1, 1)
	d.Boot(2)
	if !d.Burst(1, 0, 1) {
		t.Error("no burst of a torn block")
	}
	if _, ok := d.Read(1); ok {
		t.Error("a burst makes a torn block whole")
	}
}

// P4.6.
func TestWhatWasFlushedStays(t *testing.T) {
	d := made(t, 3)
	write(t, d, 0, 1, 1, 2, 2, 3)
	flush(t, d)
	d.Arm(0)
	d.Write(0, fill(9))
	d.Write(1, fill(9))
	d.Flush()
	d.Boot(1, 1, 2, 2)
	reads(t, d, 1, 2, 3)
	for k := range 9 {
		write(t, d, 1, 20+k)
		d.Boot(0)
		reads(t, d, 1, 2, 3)
	}
	write(t, d, 1, 4)
	d.Boot(2)
	reads(t, d, 1, unread, 3)
	write(t, d, 0, 5, 1, 6)
	flush(t, d)
	d.Boot(2, 2, 2)
	reads(t, d, 5, 6, 3)
}

// P4.2, P4.3: bytes that are handed in or out are changed later.
func TestBytesAreCopied(t *testing.T) {
	d := made(t, 1)
	room := append(fill(1), fill(7)...)
	if d.Write(0, room[:api.Block]) != api.OK {
		t.Fatal("a write doesn't go")
	}
	if !bytes.Equal(room, append(fill(1), fill(7)...)) {
		t.Fatal("Write changes its bytes")
	}
	spoil := func(b []byte) {
		b = b[:cap(b)]
		for i := range b {
			b[i] ^= 255
		}
	}
	spoil(room)
	for _, settle := range []func(){func() {}, func() { d.Flush() }, func() { d.Boot() }} {
		settle()
		first, _ := d.Read(0)
		second, _ := d.Read(0)
		spoil(first)
		if !bytes.Equal(second, fill(1)) {
			t.Fatal("two answers share memory")
		}
		reads(t, d, 1)
		u := d.Twin()
		spoil(second)
		reads(t, u, 1)
	}
	how := append(make([]byte, 0, 9), 4, 5)
	write(t, d, 0, 2, 0, 3, 0, 4)
	d.Boot(how...)
	if !bytes.Equal(how, []byte{4, 5}) || !bytes.Equal(how[:9], append([]byte{4, 5}, make([]byte, 7)...)) {
		t.Error("Boot changes its bytes")
	}
	reads(t, d, unread)
}

// model is a disk told by its history: what was put or torn, block by block.
type model struct {
	blocks  [][]byte
	torn    []bool
	places  []int
	bytes   [][]byte
	left    int
	endless bool
	dark    bool
	wrote   int
}

// asks says whether the next write or flush goes.
func (m *model) asks() bool {
	switch {
	case m.dark:
		return false
	case m.endless:
		return true
	case m.left == 0:
		m.dark = true
		return false
	}
	m.left--
	return true
}

// settle does to the writes that wait what what says of each.
func (m *model) settle(what func(k int) int) {
	for k, i := range m.places {
		switch what(k) {
		case 1:
			m.blocks[i], m.torn[i] = m.bytes[k], false
		case 2:
			m.torn[i] = true
		}
	}
	m.places, m.bytes = nil, nil
}

func (m *model) write(i int, b []byte) api.Status {
	if i < 0 || i >= len(m.blocks) || len(b) != api.Block {
		return api.BadParams
	}
	if !m.asks() {
		return api.Down
	}
	m.places, m.bytes = append(m.places, i), append(m.bytes, slices.Clone(b))
	m.wrote++
	return api.OK
}

func (m *model) flush() api.Status {
	if !m.asks() {
		return api.Down
	}
	m.settle(func(int) int { return 1 })
	return api.OK
}

func (m *model) boot(how []byte) {
	m.settle(func(k int) int {
		if k >= len(how) {
			return 0
		}
		return int(how[k] % 3)
	})
	m.dark, m.endless = false, true
}

func (m *model) read(i int) ([]byte, bool) {
	if i < 0 || i >= len(m.blocks) || m.dark {
		return nil, false
	}
	b, ok := m.blocks[i], !m.torn[i]
	for k, p := range m.places {
		if p == i {
			b, ok = m.bytes[k], true
		}
	}
	if !ok {
		return nil, false
	}
	return b, true
}

func (m *model) burst(i, at int, x uint32) bool {
	if i < 0 || i >= len(m.blocks) || at < 0 || at+4 > api.Block || len(m.places) > 0 {
		return false
	}
	b := slices.Clone(m.blocks[i])
	for k := range 4 {
		b[at+k] ^= byte(x)
		x >>= 8
	}
	m.blocks[i] = b
	return true
}

// chance is numbers of no pattern.
type chance uint64

func (c *chance) below(n int) int {
	*c = *c*6364136223846793005 + 1442695040888963407
	return int(uint64(*c) >> 33 % uint64(n))
}

// P4.1 to P4.6: many acts of no pattern, held against the model behind each one.
func TestAgainstAModel(t *testing.T) {
	c := chance(11)
	for round := range 300 {
		n := 1 + c.below(5)
		d := made(t, n)
		m := &model{torn: make([]bool, n), endless: true}
		for range n {
			m.blocks = append(m.blocks, make([]byte, api.Block))
		}
		for act := range 80 {
			step(t, &c, d, m)
			if c.below(10) == 0 {
				elder := d
				d = d.Twin()
				elder.Flush()
				elder.Boot(2, 2, 2, 2)
				elder.Burst(0, 0, 77)
			}
			if d.Off() != m.dark || d.Len() != n || d.Waits() != len(m.places) || d.Wrote() != m.wrote {
				t.Fatalf("round %d, act %d: off %v, %d wait, %d went; not %v, %d, %d", round, act, d.Off(), d.Waits(), d.Wrote(), m.dark, len(m.places), m.wrote)
			}
			for i := -1; i <= n; i++ {
				got, ok := d.Read(i)
				want, whole := m.read(i)
				if ok != whole || !bytes.Equal(got, want) {
					t.Fatalf("round %d, act %d: block %d reads as %v, %v, not as %v, %v", round, act, i, got, ok, want, whole)
				}
			}
		}
	}
}

// step does one act to both.
func step(t *testing.T, c *chance, d *disk.Disk, m *model) {
	t.Helper()
	n := len(m.blocks)
	switch c.below(12) {
	case 0:
		k := c.below(8) - 1
		d.Arm(k)
		m.left, m.endless = k, k < 0
	case 1:
		if got, want := d.Flush(), m.flush(); got != want {
			t.Fatalf("Flush answers %v, not %v", got, want)
		}
	case 2:
		how := make([]byte, c.below(7))
		for k := range how {
			how[k] = byte(c.below(256))
		}
		d.Boot(how...)
		m.boot(how)
	case 3, 4:
		i, at, x := c.below(n+2)-1, c.below(api.Block+4)-4, uint32(c.below(1<<31))
		if got, want := d.Burst(i, at, x), m.burst(i, at, x); got != want {
			t.Fatalf("Burst(%d, %d, %x) is %v", i, at, x, got)
		}
	default:
		i, b := c.below(n+2)-1, noise(uint64(c.below(1<<30)))
		if c.below(9) == 0 {
			b = b[1:]
		}
		if got, want := d.Write(i, b), m.write(i, b); got != want {
			t.Fatalf("Write(%d) answers %v, not %v", i, got, want)
		}
	}
}

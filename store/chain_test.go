package store_test

import (
	"bytes"
	"math"
	"testing"

	"sheaf/api"
	"sheaf/catalog"
	"sheaf/disk"
	"sheaf/store"
)

// fileOf is the catalog's file of that name.
func fileOf(t *testing.T, s *store.Store, name int) api.File {
	t.Helper()
	f, ok := catalog.Find(s.Catalog(), name)
	if !ok {
		t.Fatalf("there is no file %d", name)
	}
	return f
}

// steps holds what Step answers against a leaf's bytes and what is next.
func steps(t *testing.T, s *store.Store, f api.File, place, at, next int, want []byte) {
	t.Helper()
	b, n, status := s.Step(f, place, at)
	if status != api.OK || n != next || !bytes.Equal(b, want) {
		t.Fatalf("place %d of %v in block %d: %d bytes, %d, %v", place, f, at, len(b), n, status)
	}
}

// misses holds what Step answers against a status that isn't OK.
func misses(t *testing.T, s *store.Store, f api.File, place, at int, want api.Status) {
	t.Helper()
	if b, next, status := s.Step(f, place, at); len(b) != 0 || next != 0 || status != want {
		t.Fatalf("place %d of %v in block %d: %d bytes, %d, %v", place, f, at, len(b), next, status)
	}
}

// P7.5: each block of a file by its place, and no block by another.
func TestStep(t *testing.T) {
	d, s := formatted(t, 12, 300, 232, 0, 1)
	for name, size := range []int{300, 232, 0, 1} {
		f := fileOf(t, s, name+1)
		b := text(name+1, size)
		blocks := chainOf(t, d, f)
		for i, at := range blocks {
			next := append(blocks, 0)[i+1]
			steps(t, s, f, i, at, next, b[116*i:min(116*i+116, size)])
			for _, place := range []int{i - 1, i + 1, i + 256, i + 65536, i - 65536, math.MinInt, math.MaxInt} {
				misses(t, s, f, place, at, api.Corrupt)
			}
			other := f
			other.File++
			misses(t, s, other, i, at, api.Corrupt)
			other.File += 65535
			misses(t, s, other, i, at, api.Corrupt)
		}
		for at := -1; at <= 12; at++ {
			for place := range 4 {
				if place >= len(blocks) || blocks[place] != at {
					misses(t, s, f, place, at, api.Corrupt)
				}
			}
		}
		for _, at := range []int{math.MinInt, -65536, 512, 65535, 65538, math.MaxInt} {
			misses(t, s, f, 0, at, api.Corrupt)
		}
	}
}

// P7.5: a leaf that is in a slot is no file's, nor is one of a catalog.
func TestStepOfASlotAndOfACatalog(t *testing.T) {
	d, s := formatted(t, 6, 100)
	f := api.File{Name: 9, File: 700, First: 3, Blocks: 1}
	for at := range 6 {
		lay(t, d, at, data(700, 0, 0, text(4, 30)))
		if at < api.Slots {
			misses(t, s, f, 0, at, api.Corrupt)
		} else {
			steps(t, s, f, 0, at, 0, text(4, 30))
		}
		turn(t, d, at, func(l *api.Leaf) { l.Kind = api.KCatalog })
		misses(t, s, f, 0, at, api.Corrupt)
	}
}

// P7.5: a block that was turned by a burst, or torn; what waits is read; no power.
func TestStepOfWhatCannotBeRead(t *testing.T) {
	d, s := formatted(t, 8, 300)
	f := fileOf(t, s, 1)
	b := text(1, 300)
	for bit := range 32 {
		d.Burst(3, 124, 1<<bit)
		misses(t, s, f, 1, 3, api.Corrupt)
		d.Burst(3, 124, 1<<bit)
	}
	steps(t, s, f, 1, 3, 4, b[116:232])
	was := block(t, d, 3)
	tear(t, d, 3)
	misses(t, s, f, 1, 3, api.Corrupt)
	d.Write(3, was)
	steps(t, s, f, 1, 3, 4, b[116:232])
	d.Boot()
	misses(t, s, f, 1, 3, api.Corrupt)
	d.Arm(0)
	steps(t, s, f, 0, 2, 3, b[:116])
	d.Flush()
	for at := -1; at < 9; at++ {
		misses(t, s, f, 0, at, api.Down)
	}
	misses(t, s, api.File{}, -1, -1, api.Down)
	d.Boot()
	steps(t, s, f, 2, 4, 0, b[232:])
}

// P7.5: a file whose name is another is the same chain.
func TestNamesAreNotInTheBlocks(t *testing.T) {
	_, s := formatted(t, 8, 300)
	f := fileOf(t, s, 1)
	for _, name := range []int{0, 2, 255, 256, -1} {
		f.Name = name
		is(t, s, f, text(1, 300))
		steps(t, s, f, 0, 2, 3, text(1, 300)[:116])
	}
}

// P7.5: what is answered is the caller's own.
func TestBytesAreNotShared(t *testing.T) {
	_, s := formatted(t, 8, 300)
	f := fileOf(t, s, 1)
	b, _, _ := s.Step(f, 0, 2)
	clear(b[:cap(b)])
	var all [][]byte
	for b := range s.Blocks(f) {
		for _, elder := range all {
			clear(elder[:cap(elder)])
		}
		if !bytes.Equal(b, text(1, 300)[116*len(all):min(116*len(all)+116, 300)]) {
			t.Fatal("blocks that are yielded share their bytes")
		}
		all = append(all, b)
		clear(b[:cap(b)])
	}
	is(t, s, f, text(1, 300))
	has(t, s, text(1, 300))
}

// P7.5: files that are none, and such whose First or Blocks isn't their chain's: what
// is yielded till that shows.
func TestBlocksOfWrongFiles(t *testing.T) {
	_, s := formatted(t, 12, 300, 200, 0)
	f := fileOf(t, s, 1)
	for i, q := range []struct {
		f     api.File
		parts int
		want  api.Status
	}{
		{f, 3, api.OK},
		{fileOf(t, s, 2), 2, api.OK},
		{fileOf(t, s, 3), 0, api.OK},
		{api.File{}, 0, api.OK},
		{api.File{Name: 9, File: 65535}, 0, api.OK},
		{api.File{Name: 1, File: f.File, First: 2}, 0, api.Corrupt},
		{api.File{Name: 1, File: f.File, First: 2, Blocks: 1}, 1, api.Corrupt},
		{api.File{Name: 1, File: f.File, First: 2, Blocks: 2}, 2, api.Corrupt},
		{api.File{Name: 1, File: f.File, First: 2, Blocks: 4}, 3, api.Corrupt},
		{api.File{Name: 1, File: f.File, First: 2, Blocks: math.MaxInt}, 3, api.Corrupt},
		{api.File{Name: 1, File: f.File, First: 0, Blocks: 3}, 0, api.Corrupt},
		{api.File{Name: 1, File: f.File, First: 1, Blocks: 3}, 0, api.Corrupt},
		{api.File{Name: 1, File: f.File, First: 3, Blocks: 3}, 0, api.Corrupt},
		{api.File{Name: 1, File: f.File, First: 3, Blocks: 2}, 0, api.Corrupt},
		{api.File{Name: 1, File: f.File, First: 4, Blocks: 1}, 0, api.Corrupt},
		{api.File{Name: 1, File: f.File, First: 5, Blocks: 2}, 0, api.Corrupt},
		{api.File{Name: 1, File: f.File, First: 11, Blocks: 1}, 0, api.Corrupt},
		{api.File{Name: 1, File: f.File, First: 12, Blocks: 1}, 0, api.Corrupt},
		{api.File{Name: 1, File: f.File, First: -2, Blocks: 3}, 0, api.Corrupt},
		{api.File{Name: 1, File: f.File, First: 65538, Blocks: 3}, 0, api.Corrupt},
		{api.File{Name: 1, File: f.File, First: math.MaxInt, Blocks: 3}, 0, api.Corrupt},
		{api.File{Name: 1, File: f.File + 1, First: 2, Blocks: 3}, 0, api.Corrupt},
		{api.File{Name: 1, File: f.File + 65536, First: 2, Blocks: 3}, 0, api.Corrupt},
		{api.File{Name: 1, File: -1, First: 2, Blocks: 3}, 0, api.Corrupt},
		{api.File{Name: 1, File: 0, First: 2, Blocks: 3}, 0, api.Corrupt},
	} {
		parts, status := told(t, s, q.f)
		if len(parts) != q.parts || status != q.want {
			t.Errorf("file %d, %v: %d blocks and %v", i, q.f, len(parts), status)
		}
	}
	for _, n := range []int{-1, -65533, math.MinInt} {
		f.Blocks = n
		if _, status := told(t, s, f); status != api.Corrupt {
			t.Errorf("%d blocks: %v", n, status)
		}
	}
	free(t, s, 5)
}

// P7.5: a block of the chain that isn't as it must be, at each place.
func TestBlocksOfBrokenChains(t *testing.T) {
	for i := range 3 {
		at := 2 + i
		for k, q := range []struct {
			f     func(d *disk.Disk)
			parts int
		}{
			{func(d *disk.Disk) { d.Burst(at, 0, 1) }, i},
			{func(d *disk.Disk) { tear(t, d, at) }, i},
			{func(d *disk.Disk) { turn(t, d, at, func(l *api.Leaf) { l.File = 66 }) }, i},
			{func(d *disk.Disk) { turn(t, d, at, func(l *api.Leaf) { l.Place = i + 1 }) }, i},
			{func(d *disk.Disk) { turn(t, d, at, func(l *api.Leaf) { l.Kind = api.KCatalog }) }, i},
			{func(d *disk.Disk) { d.Write(at, make([]byte, api.Block)) }, i},
			{func(d *disk.Disk) { turn(t, d, at, func(l *api.Leaf) { l.Next = 5 }) }, i + 1},
			{func(d *disk.Disk) { turn(t, d, at, func(l *api.Leaf) { l.Next = at }) }, i + 1},
			{func(d *disk.Disk) { turn(t, d, at, func(l *api.Leaf) { l.Next = 1 }) }, i + 1},
			{func(d *disk.Disk) { turn(t, d, at, func(l *api.Leaf) { l.Next = 65535 }) }, i + 1},
		} {
			d, s := formatted(t, 10, 300, 200)
			f := fileOf(t, s, 1)
			is(t, s, f, text(1, 300))
			q.f(d)
			parts, status := told(t, s, f)
			if len(parts) != q.parts || status != api.Corrupt {
				t.Errorf("block %d, fault %d: %d blocks and %v", at, k, len(parts), status)
			}
			is(t, s, fileOf(t, s, 2), text(2, 200))
		}
		if i == 2 {
			continue
		}
		d, s := formatted(t, 10, 300, 200)
		turn(t, d, at, func(l *api.Leaf) { l.Next = 0 })
		yields(t, s, fileOf(t, s, 1), i+1, api.Corrupt)
	}
}

// P7.5: a chain goes through no slot, though a leaf of it is there.
func TestBlocksThroughASlot(t *testing.T) {
	for slot := range api.Slots {
		d, s := formatted(t, 10)
		f := api.File{Name: 1, File: 700, First: 5, Blocks: 2}
		lay(t, d, 5, data(700, 0, slot, text(1, 116)))
		lay(t, d, slot, data(700, 1, 0, text(2, 5)))
		yields(t, s, f, 1, api.Corrupt)
		lay(t, d, slot, data(700, 0, 0, text(2, 5)))
		f.First, f.Blocks = slot, 1
		yields(t, s, f, 0, api.Corrupt)
	}
}

// P7.5: an iterator that is left, at each of its blocks, and begun again.
func TestBlocksThatAreLeft(t *testing.T) {
	_, s := formatted(t, 12, 500)
	f := fileOf(t, s, 1)
	b := text(1, 500)
	seq := s.Blocks(f)
	for stop := 1; stop <= 6; stop++ {
		n := 0
		for p, status := range seq {
			if status != api.OK || !bytes.Equal(p, b[116*n:min(116*n+116, 500)]) {
				t.Fatalf("block %d: %v", n, status)
			}
			if n++; n == stop {
				break
			}
		}
		if n != min(stop, 5) {
			t.Fatalf("left at block %d: %d are yielded", stop, n)
		}
	}
	func() {
		for range seq {
			return
		}
	}()
	is(t, s, f, b)
}

// P7.5: an iterator of a wrong file that is left at the block that is wrong, and
// ahead of it.
func TestWrongBlocksThatAreLeft(t *testing.T) {
	d, s := formatted(t, 12, 500, 300)
	d.Burst(4, 0, 1)
	more := fileOf(t, s, 2)
	more.Blocks = 2
	for _, q := range []struct {
		f api.File
		n int
	}{{fileOf(t, s, 1), 3}, {more, 3}, {api.File{First: 3}, 1}} {
		for stop := 1; stop <= q.n; stop++ {
			n := 0
			for _, status := range s.Blocks(q.f) {
				if n++; (status != api.OK) != (n == q.n) {
					t.Fatalf("block %d of %v: %v", n, q.f, status)
				}
				if n == stop {
					break
				}
			}
		}
		yields(t, s, q.f, q.n-1, api.Corrupt)
	}
}

// P7.5: two iterators at a time.
func TestBlocksWithinBlocks(t *testing.T) {
	_, s := formatted(t, 12, 300, 200)
	outer := 0
	for b := range s.Blocks(fileOf(t, s, 1)) {
		is(t, s, fileOf(t, s, 1), text(1, 300))
		is(t, s, fileOf(t, s, 2), text(2, 200))
		if !bytes.Equal(b, text(1, 300)[116*outer:min(116*outer+116, 300)]) {
			t.Fatal(outer)
		}
		outer++
	}
	if outer != 3 {
		t.Error(outer)
	}
}

// P7.5: nothing is read ahead of a range, and a block only when it is its turn.
func TestBlocksReadAsTheyGo(t *testing.T) {
	d, s := formatted(t, 12, 500)
	f := fileOf(t, s, 1)
	seq := s.Blocks(f)
	turn(t, d, 2, func(l *api.Leaf) { l.Load[0]++ })
	n := 0
	for b, status := range seq {
		want := text(1, 500)[116*n : min(116*n+116, 500)]
		want[0]++
		if status != api.OK || !bytes.Equal(b, want) {
			t.Fatalf("block %d isn't what was there when it was its turn: %v", n, status)
		}
		// What was yielded may change, and what comes next does.
		turn(t, d, 2+n, func(l *api.Leaf) { l.File = 999 })
		if n++; n < 5 {
			turn(t, d, 2+n, func(l *api.Leaf) { l.Load[0]++ })
		}
	}
	if n != 5 {
		t.Error(n)
	}
}

// P7.5: a block goes, or the power, while an iterator is on its way.
func TestBlocksThatGoOnTheWay(t *testing.T) {
	for stop := 1; stop < 5; stop++ {
		for _, want := range []api.Status{api.Corrupt, api.Down} {
			d, s := formatted(t, 12, 500)
			n := 0
			last := api.OK
			for b, status := range s.Blocks(fileOf(t, s, 1)) {
				if last != api.OK || status != api.OK && len(b) != 0 {
					t.Fatal("more is yielded")
				}
				if last = status; status != api.OK {
					continue
				}
				if n++; n == stop && want == api.Down {
					darken(t, d)
				} else if n == stop {
					d.Burst(2+n, 60, 1<<31)
				}
			}
			if n != stop || last != want {
				t.Errorf("gone at block %d: %d are yielded, and %v", stop, n, last)
			}
		}
	}
}

// P7.5: without power.
func TestBlocksWithoutPower(t *testing.T) {
	d, s := formatted(t, 12, 500, 0)
	darken(t, d)
	yields(t, s, fileOf(t, s, 1), 0, api.Down)
	yields(t, s, api.File{File: 9, First: 700, Blocks: 1}, 0, api.Down)
	yields(t, s, fileOf(t, s, 2), 0, api.OK)
	d.Boot()
	is(t, s, fileOf(t, s, 1), text(1, 500))
}

// P7.5: what waits is read as what was flushed.
func TestBlocksOfWhatWaits(t *testing.T) {
	d, s := formatted(t, 12)
	f := save(t, s, 1, text(1, 500))
	if d.Waits() != 5 {
		t.Fatal(d.Waits())
	}
	is(t, s, f, text(1, 500))
	if d.Waits() != 5 {
		t.Error("reading flushes")
	}
	d.Boot(1, 1, 1, 0, 1)
	yields(t, s, f, 3, api.Corrupt)
}

// P7.6: what no catalog names is free, all of it.
func TestDrop(t *testing.T) {
	for _, size := range []int{0, 1, 116, 117, 500} {
		d, s := formatted(t, 12, 100)
		f := save(t, s, 1, text(2, size))
		free(t, s, 9-blocksFor(size))
		waits, wrote := d.Waits(), d.Wrote()
		s.Drop(f)
		free(t, s, 9)
		if d.Waits() != waits || d.Wrote() != wrote {
			t.Error("Drop writes")
		}
		stands(t, d, save(t, s, 3, text(3, 1044)), text(3, 1044), upTo(3, 12)...)
	}
}

// P7.6: what the catalog names stays, by its number, whatever its name.
func TestDropOfWhatTheCatalogNames(t *testing.T) {
	d, s := formatted(t, 12, 100, 200, 0)
	f := save(t, s, 4, text(4, 300))
	commit(t, s, with(s, f))
	for _, c := range s.Catalog().Files {
		for _, name := range []int{c.Name, 0, 77, 256} {
			c.Name = name
			s.Drop(c)
			free(t, s, 4)
		}
	}
	has(t, opened(t, d), text(1, 100), text(2, 200), nil, text(4, 300))
	// One of a name that the catalog has, but of another number, isn't named.
	g := save(t, s, 4, text(5, 200))
	free(t, s, 2)
	s.Drop(g)
	free(t, s, 4)
	has(t, s, text(1, 100), text(2, 200), nil, text(4, 300))
}

// P7.6: a number that the catalog names stays, though its chain is another.
func TestDropOfANumberThatTheCatalogNames(t *testing.T) {
	d, s := formatted(t, 12, 100)
	f := save(t, s, 2, text(2, 200))
	for _, at := range chainOf(t, d, f) {
		turn(t, d, at, func(l *api.Leaf) { l.File = 65 })
	}
	s.Drop(api.File{Name: 2, File: 65, First: f.First, Blocks: 2})
	free(t, s, 7)
}

// P7.6: of a chain that isn't whole nothing is free.
func TestDropOfAChainThatIsNotWhole(t *testing.T) {
	for i, wrong := range []func(d *disk.Disk, f *api.File){
		func(d *disk.Disk, f *api.File) { f.Blocks-- },
		func(d *disk.Disk, f *api.File) { f.Blocks++ },
		func(d *disk.Disk, f *api.File) { f.Blocks = 0 },
		func(d *disk.Disk, f *api.File) { f.Blocks = -1 },
		func(d *disk.Disk, f *api.File) { f.First++ },
		func(d *disk.Disk, f *api.File) { f.First = 0 },
		func(d *disk.Disk, f *api.File) { f.First = 700 },
		func(d *disk.Disk, f *api.File) { f.File++ },
		func(d *disk.Disk, f *api.File) { *f = api.File{} },
		func(d *disk.Disk, f *api.File) { d.Burst(3, 5, 9) },
		func(d *disk.Disk, f *api.File) { d.Burst(4, 5, 9) },
		func(d *disk.Disk, f *api.File) { d.Burst(5, 5, 9) },
		func(d *disk.Disk, f *api.File) { tear(t, d, 3) },
		func(d *disk.Disk, f *api.File) { tear(t, d, 5) },
		func(d *disk.Disk, f *api.File) { turn(t, d, 4, func(l *api.Leaf) { l.File-- }) },
		func(d *disk.Disk, f *api.File) { turn(t, d, 4, func(l *api.Leaf) { l.Place++ }) },
		func(d *disk.Disk, f *api.File) { turn(t, d, 4, func(l *api.Leaf) { l.Next = 0 }) },
		func(d *disk.Disk, f *api.File) { turn(t, d, 5, func(l *api.Leaf) { l.Next = 3 }) },
		func(d *disk.Disk, f *api.File) { turn(t, d, 5, func(l *api.Leaf) { l.Next = 9 }) },
		func(d *disk.Disk, f *api.File) { turn(t, d, 5, func(l *api.Leaf) { l.Kind = api.KCatalog }) },
		func(d *disk.Disk, f *api.File) { darken(t, d) },
	} {
		d, s := formatted(t, 12, 100)
		f := save(t, s, 2, text(2, 300))
		d.Flush()
		free(t, s, 6)
		g := f
		wrong(d, &g)
		s.Drop(g)
		if s.Free() != 6 {
			t.Errorf("wrong by %d: %d blocks are free", i, s.Free())
		}
	}
}

// P7.6: a file that isn't ended has no chain yet.
func TestDropOfAFileThatIsNotEnded(t *testing.T) {
	_, s := formatted(t, 12, 100)
	w := s.Create(2)
	put(t, w, text(2, 300))
	free(t, s, 6)
	for n := range 5 {
		s.Drop(api.File{Name: 2, File: 129, First: 3, Blocks: n})
		free(t, s, 6)
	}
	f := closed(t, w)
	is(t, s, f, text(2, 300))
	s.Drop(f)
	free(t, s, 9)
}

// P7.6: a chain that was lost by a crash isn't whole.
func TestDropBehindACrash(t *testing.T) {
	d, s := formatted(t, 12, 100)
	f := save(t, s, 2, text(2, 300))
	d.Boot(1, 0, 1)
	s.Drop(f)
	free(t, s, 6)
	g := save(t, s, 3, text(3, 300))
	d.Boot(1, 1, 1)
	s.Drop(g)
	free(t, s, 6)
}

// P7.6: Free counts all but the slots and what is taken.
func TestFree(t *testing.T) {
	for _, n := range []int{3, 4, 64, 65, api.MaxBlocks} {
		d, s := formatted(t, n)
		w := s.Create(1)
		for taken := range n - api.Slots {
			free(t, s, n-api.Slots-taken)
			put(t, w, text(taken, 116))
		}
		free(t, s, 0)
		darken(t, d)
		free(t, s, 0)
		d.Boot()
		free(t, opened(t, d), n-api.Slots)
	}
}

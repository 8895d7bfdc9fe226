package store_test

import (
	"bytes"
	"math"
	"testing"

	"sheaf/api"
	"sheaf/disk"
	"sheaf/store"
)

// P7.1, P7.2, P7.5, P7.6.
func TestRunOfTheChapter(t *testing.T) {
	d := disk.New(8)
	s, status := store.Format(d, api.Card{}, map[int][]byte{1: text(1, 200)})
	if status != api.OK || s.Disk() != d {
		t.Fatal(status)
	}
	free(t, s, 4)
	s = opened(t, d)
	free(t, s, 4)
	want := api.Catalog{Gen: 1, Files: []api.File{{Name: 1, File: 65, First: 2, Blocks: 2}}}
	if !same(s.Catalog(), want) || s.Disk() != d {
		t.Fatal(s.Catalog())
	}
	parts, status := told(t, s, want.Files[0])
	if status != api.OK || len(parts) != 2 || len(parts[0]) != 116 || len(parts[1]) != 84 {
		t.Fatal(len(parts), status)
	}
	has(t, s, text(1, 200))
}

// P7.1: disks that are too small.
func TestFormatOfNoRoom(t *testing.T) {
	for _, n := range []int{1, api.Slots} {
		d := disk.New(n)
		d.Write(0, bytes.Repeat([]byte{7}, api.Block))
		was := allOf(d)
		if s, status := store.Format(d, card, nil); status != api.BadParams || s != nil {
			t.Errorf("%d blocks: %v", n, status)
		}
		untouched(t, d, was, 1, 1)
	}
}

// P7.1: a disk of one block more than Slots, and of the most.
func TestFormatOfTheLeastAndTheMostBlocks(t *testing.T) {
	for _, n := range []int{api.Slots + 1, api.Slots + 2, 100, api.MaxBlocks - 1, api.MaxBlocks} {
		room := n - api.Slots
		_, s := formatted(t, n)
		has(t, s)
		free(t, s, room)
		most := room * api.Load
		d, s := formatted(t, n, most)
		free(t, s, 0)
		stands(t, d, s.Catalog().Files[0], text(1, most), upTo(api.Slots, n)...)
		has(t, opened(t, d), text(1, most))
		if s, status := store.Format(d, card, map[int][]byte{1: text(1, most+1)}); status != api.DiskFull || s != nil {
			t.Fatalf("a file of a byte too many for %d blocks: %v", n, status)
		}
		refuses(t, d, api.Corrupt)
	}
}

// P7.1: cards that are zero or right.
func TestFormatWithRightCards(t *testing.T) {
	for _, c := range []api.Card{
		{}, card, {Budget: 2, Fan: 2}, {Budget: api.MaxBudget, Fan: api.MaxFan},
		{To: api.MaxDay, Budget: 2, Fan: 2}, {From: api.MaxDay, To: api.MaxDay, Budget: 9, Fan: 9},
	} {
		d := disk.New(6)
		s, status := store.Format(d, c, map[int][]byte{9: {1}})
		want := api.Catalog{Gen: 1, Card: c, Files: []api.File{{Name: 9, File: 65, First: 2, Blocks: 1}}}
		if status != api.OK || !same(s.Catalog(), want) || !same(slotOf(t, d, 0), want) || !same(opened(t, d).Catalog(), want) {
			t.Errorf("Format with %v: %v", c, status)
		}
	}
}

// P7.1: cards that are neither; they are told ahead of all else, and change nothing.
func TestFormatWithWrongCards(t *testing.T) {
	for _, c := range []api.Card{
		{Budget: 1, Fan: 2}, {Budget: 2, Fan: 1}, {Budget: 2}, {Fan: 2}, {To: 9}, {From: 1},
		{From: 1, Budget: 2, Fan: 2}, {From: -1, Budget: 2, Fan: 2}, {To: api.MaxDay + 1, Budget: 2, Fan: 2},
		{Budget: api.MaxBudget + 1, Fan: 2}, {Budget: 2, Fan: api.MaxFan + 1}, {From: math.MinInt, To: math.MaxInt, Budget: math.MaxInt, Fan: math.MinInt},
	} {
		d, s := formatted(t, 6, 5)
		save(t, s, 2, text(2, 5))
		was, wrote := allOf(d), d.Wrote()
		if s, status := store.Format(d, c, map[int][]byte{1: {1}}); status != api.BadParams || s != nil {
			t.Errorf("Format with %v: %v", c, status)
		}
		untouched(t, d, was, 1, wrote)
		has(t, opened(t, d), text(1, 5))
		darken(t, d)
		if _, status := store.Format(d, c, nil); status != api.BadParams {
			t.Errorf("Format with %v without power: %v", c, status)
		}
	}
}

// P7.1: the files stand by rising names, behind each other, each with its number.
func TestFormatOfFiles(t *testing.T) {
	sizes := []int{0, 1, 115, 116, 117, 231, 232, 233, 0, 300, 2, 464, 465, 50}
	names := []int{1, 2, 3, 5, 8, 13, 21, 34, 55, 89, 144, 200, 254, 255}
	for n := range api.MaxFiles + 1 {
		files := map[int][]byte{}
		for i, name := range names[api.MaxFiles-n:] {
			files[name] = text(name, sizes[i])
		}
		d := disk.New(40)
		s, status := store.Format(d, card, files)
		if status != api.OK || len(s.Catalog().Files) != n {
			t.Fatalf("%d files: %v", n, status)
		}
		at := api.Slots
		for i, f := range s.Catalog().Files {
			name := names[api.MaxFiles-n+i]
			end := at + blocksFor(sizes[i])
			if f.Name != name || f.File != 65+i {
				t.Fatalf("file %d is %v", i, f)
			}
			stands(t, d, f, text(name, sizes[i]), upTo(at, end)...)
			at = end
		}
		free(t, s, 40-at)
		if again := opened(t, d); again.Free() != 40-at || !same(again.Catalog(), s.Catalog()) {
			t.Fatalf("%d files: opened, they are %v", n, again.Catalog())
		}
	}
}

// P7.1: a file of no bytes is one, be they nil or none.
func TestFormatOfFilesOfNoBytes(t *testing.T) {
	s, status := store.Format(disk.New(3), card, map[int][]byte{4: nil, 3: {}, 7: {9}})
	if status != api.OK {
		t.Fatal(status)
	}
	want := api.Catalog{Gen: 1, Card: card, Files: []api.File{{Name: 3, File: 65}, {Name: 4, File: 66}, {Name: 7, File: 67, First: 2, Blocks: 1}}}
	if !same(s.Catalog(), want) {
		t.Error(s.Catalog())
	}
}

// P7.1: what has no name of a file is no file, and takes nothing.
func TestFormatOfNoNames(t *testing.T) {
	files := map[int][]byte{}
	for _, name := range []int{0, 256, -1, -255, 257, 511, 1 << 16, math.MinInt, math.MaxInt} {
		files[name] = text(name, 999)
	}
	_, status := store.Format(disk.New(3), card, files)
	if status != api.OK {
		t.Fatal(status)
	}
	files[1], files[255] = text(1, 3), text(255, 4)
	d := disk.New(4)
	s, status := store.Format(d, card, files)
	want := api.Catalog{Gen: 1, Card: card, Files: []api.File{{Name: 1, File: 65, First: 2, Blocks: 1}, {Name: 255, File: 66, First: 3, Blocks: 1}}}
	if status != api.OK || !same(s.Catalog(), want) || len(files) != 11 {
		t.Error(status)
	}
	free(t, s, 0)
}

// P7.1: more files than a catalog has, and than a generation has.
func TestFormatOfTooManyFiles(t *testing.T) {
	for n, want := range map[int]api.Status{api.MaxFiles: api.OK, api.MaxFiles + 1: api.BadParams, 63: api.BadParams, 64: api.DiskFull, 255: api.DiskFull} {
		for _, size := range []int{0, 1} {
			files := map[int][]byte{}
			for name := range n {
				files[name+1] = text(name, size)
			}
			d, _ := formatted(t, 300, 5)
			s, status := store.Format(d, card, files)
			if status != want || (s != nil) != (want == api.OK) {
				t.Errorf("%d files: %v, a store: %v", n, status, s != nil)
			}
			if want != api.OK {
				refuses(t, d, api.Corrupt)
			}
		}
	}
}

// P7.1: whatever a disk had, its catalogs are gone, and all its blocks are free.
func TestFormatOfAUsedDisk(t *testing.T) {
	spoil := []func(*disk.Disk, *store.Store){
		func(*disk.Disk, *store.Store) {},
		func(d *disk.Disk, s *store.Store) { s.Commit(s.Catalog()); s.Commit(s.Catalog()) },
		func(d *disk.Disk, s *store.Store) { s.Create(3).Put(text(3, 400)) },
		func(d *disk.Disk, s *store.Store) { tear(t, d, 0); tear(t, d, 1); tear(t, d, 2); tear(t, d, 7) },
		func(d *disk.Disk, s *store.Store) { d.Burst(0, 3, 77); d.Burst(2, 3, 77) },
		func(d *disk.Disk, s *store.Store) { d.Write(1, block(t, d, 0)); d.Write(0, block(t, d, 2)) },
	}
	for k, f := range spoil {
		d, s := formatted(t, 9, 300, 200)
		for range 5 {
			commit(t, s, s.Catalog())
		}
		f(d, s)
		s, status := store.Format(d, api.Card{}, map[int][]byte{1: text(8, 300), 2: nil})
		if status != api.OK || s.Catalog().Gen != 1 || s.Catalog().Card != (api.Card{}) || d.Waits() != 0 {
			t.Fatalf("spoilt by %d: %v", k, status)
		}
		if !bytes.Equal(block(t, d, 1), make([]byte, api.Block)) {
			t.Fatalf("spoilt by %d: the other slot isn't of noughts", k)
		}
		stands(t, d, s.Catalog().Files[0], text(8, 300), 2, 3, 4)
		has(t, s, text(8, 300), nil)
		has(t, opened(t, d), text(8, 300), nil)
	}
}

// P7.1: noughts into each slot, a flush, the files' blocks, a Commit: by where the
// power goes.
func TestFormatGoesInItsOrder(t *testing.T) {
	noughts := make([]byte, api.Block)
	const all = 9
	for fuse := range all + 1 {
		d, s := formatted(t, 8, 400)
		commit(t, s, s.Catalog())
		wrote := d.Wrote()
		slots := allOf(d)[:api.Slots]
		d.Arm(fuse)
		s, status := store.Format(d, card, map[int][]byte{1: text(8, 200), 2: text(9, 5)})
		if fuse == all {
			if status != api.OK || d.Off() || d.Waits() != 0 {
				t.Fatalf("all of it goes: %v", status)
			}
			has(t, s, text(8, 200), text(9, 5))
			break
		}
		if status != api.Down || s != nil || !d.Off() {
			t.Fatalf("a fuse of %d: %v", fuse, status)
		}
		wants := [][2]int{{0, 0}, {1, 1}, {2, 2}, {0, 2}, {1, 3}, {2, 4}, {3, 5}, {0, 5}, {1, 6}}
		if d.Waits() != wants[fuse][0] || d.Wrote()-wrote != wants[fuse][1] {
			t.Fatalf("a fuse of %d: %d wait, %d went", fuse, d.Waits(), d.Wrote()-wrote)
		}
		d.Boot()
		for i := range api.Slots {
			if want := [][]byte{slots[i], noughts}[min(fuse/3, 1)]; !bytes.Equal(block(t, d, i), want) {
				t.Fatalf("a fuse of %d: slot %d is %v", fuse, i, block(t, d, i))
			}
		}
	}
}

// P7.1: the noughts go into the slots in order.
func TestFormatWipesInItsOrder(t *testing.T) {
	d, s := formatted(t, 5)
	commit(t, s, s.Catalog())
	d.Arm(1)
	store.Format(d, card, nil)
	d.Boot(1)
	if !bytes.Equal(block(t, d, 0), make([]byte, api.Block)) || slotOf(t, d, 1).Gen != 2 {
		t.Error("the first slot isn't the first one that is written")
	}
}

// P7.1: a file that doesn't fit ends it, with what is ahead of it taken.
func TestFormatOfAFullDisk(t *testing.T) {
	for _, sizes := range [][]int{{349}, {348, 1}, {1, 1, 1, 1}, {116, 233}, {0, 117, 117}} {
		d, _ := formatted(t, 5, 9)
		files := map[int][]byte{}
		for i, size := range sizes {
			files[i+1] = text(i, size)
		}
		if s, status := store.Format(d, card, files); status != api.DiskFull || s != nil {
			t.Errorf("files of %v bytes: %v", sizes, status)
		}
		refuses(t, d, api.Corrupt)
	}
}

// P7.1: what was handed in isn't changed, nor kept.
func TestFormatKeepsNoBytes(t *testing.T) {
	room := text(3, 500)
	files := map[int][]byte{1: room[:200], 2: text(4, 116)}
	d := disk.New(9)
	s, status := store.Format(d, card, files)
	if status != api.OK || len(files) != 2 || !bytes.Equal(room, text(3, 500)) || !bytes.Equal(files[2], text(4, 116)) {
		t.Fatal(status)
	}
	clear(room)
	clear(files[2])
	delete(files, 1)
	has(t, s, text(3, 200), text(4, 116))
	has(t, opened(t, d), text(3, 200), text(4, 116))
}

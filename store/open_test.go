package store_test

import (
	"bytes"
	"testing"

	"sheaf/api"
	"sheaf/catalog"
	"sheaf/disk"
	"sheaf/store"
)

// layCatalog puts c into a slot of d.
func layCatalog(t *testing.T, d *disk.Disk, slot int, c api.Catalog) {
	t.Helper()
	lay(t, d, slot, catalog.Put(c))
}

// P7.2: without power, whatever is there.
func TestOpenWithoutPower(t *testing.T) {
	good, _ := formatted(t, 6, 200)
	broken, _ := formatted(t, 6, 200)
	broken.Burst(2, 0, 1)
	for i, d := range []*disk.Disk{good, broken, disk.New(1), disk.New(9)} {
		darken(t, d)
		refuses(t, d, api.Down)
		d.Boot()
		if _, status := store.Open(d); (status == api.OK) != (i == 0) || status == api.Down {
			t.Errorf("disk %d with power: %v", i, status)
		}
	}
}

// P7.2: a fuse that is burnt to 0 hasn't taken the power: to open asks for none.
func TestOpenBurnsNothing(t *testing.T) {
	d, _ := formatted(t, 6, 200)
	d.Arm(0)
	has(t, opened(t, d), text(1, 200))
	if d.Off() {
		t.Error("Open takes the power")
	}
}

// P7.2: of two slots the greater Gen, of two alike the first; the other one is
// committed into.
func TestOpenTakesTheGreaterGen(t *testing.T) {
	for _, q := range []struct{ first, second, slot int }{
		{1, 2, 1}, {2, 1, 0}, {5, 5, 0}, {0, 0, 0}, {0, 1, 1}, {1, 0, 0}, {255, 256, 1}, {256, 255, 0},
		{3, 900, 1}, {900, 3, 0}, {api.MaxGen, api.MaxGen - 1, 0}, {api.MaxGen - 1, api.MaxGen, 1}, {api.MaxGen, api.MaxGen, 0},
	} {
		d := disk.New(5)
		both := []api.Catalog{{Gen: q.first, Step: 3}, {Gen: q.second, Step: 4, Card: card}}
		layCatalog(t, d, 0, both[0])
		layCatalog(t, d, 1, both[1])
		s := opened(t, d)
		if !same(s.Catalog(), both[q.slot]) {
			t.Fatalf("of Gens %d and %d: %v", q.first, q.second, s.Catalog())
		}
		has(t, s)
		if s.Catalog().Gen == api.MaxGen {
			continue
		}
		commit(t, s, api.Catalog{Step: 7})
		if !same(slotOf(t, d, q.slot), both[q.slot]) || slotOf(t, d, 1-q.slot).Gen != both[q.slot].Gen+1 {
			t.Fatalf("of Gens %d and %d the one that was opened is overwritten", q.first, q.second)
		}
		if again := opened(t, d); !same(again.Catalog(), s.Catalog()) {
			t.Fatalf("of Gens %d and %d, and a Commit: %v", q.first, q.second, again.Catalog())
		}
	}
}

// noCatalogs make a slot one that has none.
func noCatalogs(t *testing.T) []func(d *disk.Disk, slot int) {
	return []func(d *disk.Disk, slot int){
		func(d *disk.Disk, slot int) { d.Write(slot, make([]byte, api.Block)); d.Flush() },
		func(d *disk.Disk, slot int) { d.Burst(slot, 120, 1) },
		func(d *disk.Disk, slot int) { tear(t, d, slot) },
		func(d *disk.Disk, slot int) { lay(t, d, slot, data(65, 0, 0, []byte("abc"))) },
		func(d *disk.Disk, slot int) { turn(t, d, slot, func(l *api.Leaf) { l.Kind = api.KData }) },
		func(d *disk.Disk, slot int) { turn(t, d, slot, func(l *api.Leaf) { l.File = 1 }) },
		func(d *disk.Disk, slot int) { turn(t, d, slot, func(l *api.Leaf) { l.Place = 1 }) },
		func(d *disk.Disk, slot int) { turn(t, d, slot, func(l *api.Leaf) { l.Next = 1 }) },
		func(d *disk.Disk, slot int) { turn(t, d, slot, func(l *api.Leaf) { l.Load[4] = api.MaxStep + 1 }) },
		func(d *disk.Disk, slot int) { lay(t, d, slot, api.Leaf{Kind: api.KCatalog}) },
	}
}

// P7.2: one slot that has none, and both.
func TestOpenOfSlotsWithoutCatalogs(t *testing.T) {
	for i, spoil := range noCatalogs(t) {
		for slot := range api.Slots {
			d, s := formatted(t, 12, 200, 30)
			elder := text(1, 200)
			if slot == 0 {
				// Gen 3 is in slot 0 then, Gen 2 in slot 1.
				commit(t, s, with(s, save(t, s, 1, text(9, 117))))
				elder = text(9, 117)
			}
			commit(t, s, with(s, save(t, s, 1, text(7, 300))))
			has(t, opened(t, d), text(7, 300), text(2, 30))
			gen := s.Catalog().Gen
			spoil(d, slot)
			s = opened(t, d)
			if s.Catalog().Gen != gen-1 {
				t.Fatalf("slot %d spoilt by %d: Gen %d", slot, i, s.Catalog().Gen)
			}
			has(t, s, elder, text(2, 30))
			for _, also := range noCatalogs(t) {
				both := d.Twin()
				also(both, 1-slot)
				refuses(t, both, api.Corrupt)
			}
			// What is done again goes into the slot that was spoilt.
			commit(t, s, with(s, save(t, s, 1, text(8, 350))))
			if slotOf(t, d, slot).Gen != gen || slotOf(t, d, 1-slot).Gen != gen-1 {
				t.Fatalf("slot %d spoilt by %d isn't the one that is committed into", slot, i)
			}
			has(t, opened(t, d), text(8, 350), text(2, 30))
		}
	}
}

// P7.2: nothing but noughts, and a catalog that stands in no slot.
func TestOpenOfNoStore(t *testing.T) {
	for _, n := range []int{1, 2, 3, api.MaxBlocks} {
		refuses(t, disk.New(n), api.Corrupt)
	}
	d, _ := formatted(t, 5)
	d.Write(2, block(t, d, 0))
	d.Write(0, make([]byte, api.Block))
	d.Flush()
	refuses(t, d, api.Corrupt)
}

// P7.2: the scan frees all blocks but those of the catalog's files, whatever they
// have.
func TestOpenFreesWhatNoFileHas(t *testing.T) {
	d, s := formatted(t, 20, 300, 0, 117)
	for name := range 3 {
		save(t, s, 10+name, text(name, 150))
	}
	s.Create(7).Put(text(7, 300))
	free(t, s, 4)
	d.Flush()
	tear(t, d, 19)
	s = opened(t, d)
	has(t, s, text(1, 300), nil, text(3, 117))
	free(t, s, 13)
	f := save(t, s, 4, text(4, 1508))
	stands(t, d, f, text(4, 1508), upTo(7, 20)...)
	free(t, s, 0)
}

// P7.2: files whose blocks lie anyhow.
func TestOpenOfChainsThatGoBack(t *testing.T) {
	d := disk.New(10)
	b := text(1, 300)
	for i, at := range []int{8, 2, 5} {
		lay(t, d, at, data(700, i, []int{2, 5, 0}[i], b[116*i:min(116*i+116, 300)]))
	}
	lay(t, d, 9, data(65535, 0, 0, text(2, 9)))
	layCatalog(t, d, 0, api.Catalog{Gen: 3, Files: []api.File{{Name: 1, File: 700, First: 8, Blocks: 3}, {Name: 2, File: 65535, First: 9, Blocks: 1}}})
	s := opened(t, d)
	has(t, s, b, text(2, 9))
	f := save(t, s, 3, text(3, 464))
	stands(t, d, f, text(3, 464), 3, 4, 6, 7)
}

// brokenChains spoil a store whose file 1 has blocks 2, 3, 4, and file 2 block 5 and 6.
func brokenChains(t *testing.T) []func(d *disk.Disk) {
	var all []func(d *disk.Disk)
	for at := 2; at < 7; at++ {
		all = append(all,
			func(d *disk.Disk) { d.Burst(at, 30, 0x80000001) },
			func(d *disk.Disk) { tear(t, d, at) },
			func(d *disk.Disk) { d.Write(at, make([]byte, api.Block)); d.Flush() },
			func(d *disk.Disk) { turn(t, d, at, func(l *api.Leaf) { l.File++ }) },
			func(d *disk.Disk) { turn(t, d, at, func(l *api.Leaf) { l.File = 0 }) },
			func(d *disk.Disk) { turn(t, d, at, func(l *api.Leaf) { l.Place++ }) },
			func(d *disk.Disk) { turn(t, d, at, func(l *api.Leaf) { l.Place = (l.Place + 2) % 3 }) },
			func(d *disk.Disk) { turn(t, d, at, func(l *api.Leaf) { l.Kind = api.KCatalog }) },
			func(d *disk.Disk) { turn(t, d, at, func(l *api.Leaf) { l.Next = at }) },
			func(d *disk.Disk) { turn(t, d, at, func(l *api.Leaf) { l.Next = 7 }) },
			func(d *disk.Disk) { turn(t, d, at, func(l *api.Leaf) { l.Next = 1 }) },
			func(d *disk.Disk) { turn(t, d, at, func(l *api.Leaf) { l.Next = 10 }) },
			func(d *disk.Disk) { turn(t, d, at, func(l *api.Leaf) { l.Next = 65535 }) },
		)
		if at != 4 && at != 6 {
			all = append(all, func(d *disk.Disk) { turn(t, d, at, func(l *api.Leaf) { l.Next = 0 }) })
		}
	}
	return all
}

// P7.2: a chain that isn't whole; the elder catalog isn't taken in its place.
func TestOpenOfBrokenChains(t *testing.T) {
	for i, spoil := range brokenChains(t) {
		d, _ := formatted(t, 10, 300, 200)
		layCatalog(t, d, 1, api.Catalog{Gen: 0})
		spoil(d)
		if s, status := store.Open(d); status != api.Corrupt || s != nil {
			t.Fatalf("spoilt by %d: %v", i, status)
		}
	}
}

// P7.2: a catalog whose files aren't their chains.
func TestOpenOfFilesThatAreNotTheirChains(t *testing.T) {
	for i, wrong := range []func(f *api.File){
		func(f *api.File) { f.File++ },
		func(f *api.File) { f.File = 1 },
		func(f *api.File) { f.First++ },
		func(f *api.File) { f.First = 1 },
		func(f *api.File) { f.First = 5 },
		func(f *api.File) { f.First = 9 },
		func(f *api.File) { f.First = 10 },
		func(f *api.File) { f.First = 65535 },
		func(f *api.File) { f.Blocks-- },
		func(f *api.File) { f.Blocks++ },
		func(f *api.File) { f.Blocks = api.MaxBlocks },
	} {
		d, s := formatted(t, 10, 300, 200)
		c := s.Catalog()
		c.Gen = 2
		wrong(&c.Files[0])
		layCatalog(t, d, 1, c)
		if s, status := store.Open(d); status != api.Corrupt || s != nil {
			t.Errorf("files that are wrong by %d: %v", i, status)
		}
		tear(t, d, 1)
		has(t, opened(t, d), text(1, 300), text(2, 200))
	}
}

// P7.1, P7.2: a chain goes through no slot.
func TestOpenOfAChainInASlot(t *testing.T) {
	for slot := range api.Slots {
		d := disk.New(6)
		layCatalog(t, d, 1-slot, api.Catalog{Gen: 4, Files: []api.File{{Name: 1, File: 70, First: 3, Blocks: 2}}})
		lay(t, d, 3, data(70, 0, 4, text(1, 116)))
		lay(t, d, 4, data(70, 1, 0, text(2, 6)))
		free(t, opened(t, d), 2)
		lay(t, d, 3, data(70, 0, slot, text(1, 116)))
		lay(t, d, slot, data(70, 1, 0, text(2, 6)))
		refuses(t, d, api.Corrupt)
	}
	d := disk.New(6)
	layCatalog(t, d, 0, api.Catalog{Gen: 4, Files: []api.File{{Name: 1, File: 70, First: 1, Blocks: 1}}})
	lay(t, d, 1, data(70, 0, 0, text(1, 5)))
	refuses(t, d, api.Corrupt)
}

// P7.2: a block that is in two files: two that are one, and two that come together.
func TestOpenOfFilesThatShareABlock(t *testing.T) {
	d, s := formatted(t, 10, 300, 200)
	c := s.Catalog()
	c.Gen = 2
	c.Files[1] = c.Files[0]
	c.Files[1].Name = 2
	layCatalog(t, d, 1, c)
	refuses(t, d, api.Corrupt)

	d = disk.New(10)
	lay(t, d, 2, data(65, 0, 4, text(1, 116)))
	lay(t, d, 3, data(65, 0, 4, text(2, 116)))
	lay(t, d, 4, data(65, 1, 0, text(3, 7)))
	files := []api.File{{Name: 1, File: 65, First: 2, Blocks: 2}, {Name: 9, File: 65, First: 3, Blocks: 2}}
	for _, one := range files {
		layCatalog(t, d, 0, api.Catalog{Gen: 1, Files: []api.File{one}})
		free(t, opened(t, d), 6)
	}
	layCatalog(t, d, 0, api.Catalog{Gen: 1, Files: files})
	refuses(t, d, api.Corrupt)
}

// P7.2: files of one number that share no block are whole.
func TestOpenOfFilesOfOneNumber(t *testing.T) {
	d := disk.New(5)
	lay(t, d, 2, data(65, 0, 0, text(1, 116)))
	lay(t, d, 3, data(65, 0, 0, text(2, 1)))
	layCatalog(t, d, 0, api.Catalog{Gen: 1, Files: []api.File{{Name: 1, File: 65, First: 3, Blocks: 1}, {Name: 2, File: 65, First: 2, Blocks: 1}, {Name: 3, File: 65}}})
	has(t, opened(t, d), text(2, 1), text(1, 116), nil)
}

// P7.2: the catalog that is answered is the caller's own.
func TestCatalogIsNotShared(t *testing.T) {
	d, s := formatted(t, 9, 300, 20)
	for _, s := range []*store.Store{s, opened(t, d)} {
		want := s.Catalog()
		c := s.Catalog()
		c.Files[0] = api.File{Name: 77}
		c.Files = append(c.Files[:1], api.File{Name: 78})
		c.Gen = 9
		if !same(s.Catalog(), want) {
			t.Error("a catalog that was answered is the store's own")
		}
		has(t, s, text(1, 300), text(2, 20))
		commit(t, s, s.Catalog())
		has(t, s, text(1, 300), text(2, 20))
	}
}

// P7.2: two stores of one disk's twins don't touch.
func TestStoresOfTwins(t *testing.T) {
	d, s := formatted(t, 9, 300)
	u := opened(t, d.Twin())
	commit(t, s, with(s, save(t, s, 1, text(5, 10))))
	has(t, u, text(1, 300))
	f := save(t, u, 1, text(6, 400))
	commit(t, u, with(u, f))
	has(t, s, text(5, 10))
	has(t, opened(t, u.Disk()), text(6, 400))
	if b := block(t, d, s.Catalog().Files[0].First); !bytes.Equal(b[:10], text(5, 10)) {
		t.Error("a twin was written into")
	}
}

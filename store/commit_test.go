package store_test

import (
	"bytes"
	"math"
	"slices"
	"testing"

	"sheaf/api"
	"sheaf/disk"
	"sheaf/store"
)

// P7.7: what is committed is the store's, and the disk's, one generation on; the
// slots are taken by turns.
func TestCommit(t *testing.T) {
	d, s := formatted(t, 12, 200, 30)
	first := s.Catalog()
	second := api.Catalog{Gen: 2, Step: 7, Status: api.Overflow, Ended: true, Card: api.Card{Budget: 9, Fan: 8, To: 5}, Files: first.Files}
	commit(t, s, second)
	if !same(slotOf(t, d, 0), first) || !same(slotOf(t, d, 1), second) || d.Waits() != 0 {
		t.Fatal("the second one isn't in the second slot")
	}
	has(t, s, text(1, 200), text(2, 30))
	f := save(t, s, 3, text(3, 500))
	commit(t, s, with(s, f))
	if slotOf(t, d, 0).Gen != 3 || !same(slotOf(t, d, 1), second) {
		t.Fatal("the third one isn't in the first slot")
	}
	has(t, s, text(1, 200), text(2, 30), text(3, 500))
	s = opened(t, d)
	has(t, s, text(1, 200), text(2, 30), text(3, 500))
	commit(t, s, api.Catalog{})
	has(t, s)
	if slotOf(t, d, 0).Gen != 3 || slotOf(t, d, 1).Gen != 4 {
		t.Fatal("the fourth one isn't in the second slot")
	}
	has(t, opened(t, d))
}

// P7.7: the Gen that is handed in means nothing.
func TestCommitTakesItsOwnGen(t *testing.T) {
	_, s := formatted(t, 5, 20)
	for i, gen := range []int{0, 1, 77, api.MaxGen, api.MaxGen + 1, -1, math.MinInt, math.MaxInt} {
		c := s.Catalog()
		c.Gen = gen
		if status := s.Commit(c); status != api.OK || s.Catalog().Gen != 2+i {
			t.Fatalf("Commit with Gen %d: %v, and Gen %d", gen, status, s.Catalog().Gen)
		}
	}
}

// P7.7: up to the greatest Gen, and no more.
func TestCommitUpToMaxGen(t *testing.T) {
	d, s := formatted(t, 5, 20)
	for s.Catalog().Gen < api.MaxGen {
		commit(t, s, s.Catalog())
	}
	was, wrote := allOf(d), d.Wrote()
	if status := s.Commit(s.Catalog()); status != api.BadParams || s.Catalog().Gen != api.MaxGen {
		t.Fatal(status)
	}
	untouched(t, d, was, 0, wrote)
	has(t, opened(t, d), text(1, 20))
	if slotOf(t, d, 1).Gen != api.MaxGen || slotOf(t, d, 0).Gen != api.MaxGen-1 {
		t.Error("the slots aren't taken by turns")
	}
}

// wrongCatalogs is c wrong in one thing each.
func wrongCatalogs(c api.Catalog) []api.Catalog {
	var all []api.Catalog
	for _, f := range []func(c *api.Catalog){
		func(c *api.Catalog) { c.Step = -1 },
		func(c *api.Catalog) { c.Step = api.MaxStep + 1 },
		func(c *api.Catalog) { c.Status = api.Overflow },
		func(c *api.Catalog) { c.Ended, c.Status = true, api.Down+1 },
		func(c *api.Catalog) { c.Ended, c.Status = true, -1 },
		func(c *api.Catalog) { c.Card.Budget = 1 },
		func(c *api.Catalog) { c.Card.Fan = api.MaxFan + 1 },
		func(c *api.Catalog) { c.Card.From = c.Card.To + 1 },
		func(c *api.Catalog) { c.Files[0].Name = 0 },
		func(c *api.Catalog) { c.Files[1].Name = 256 },
		func(c *api.Catalog) { c.Files[1].Name = 1 },
		func(c *api.Catalog) { c.Files[0], c.Files[1] = c.Files[1], c.Files[0] },
		func(c *api.Catalog) { c.Files[0].File = 0 },
		func(c *api.Catalog) { c.Files[0].File = 1 << 16 },
		func(c *api.Catalog) { c.Files[0].First = 0 },
		func(c *api.Catalog) { c.Files[0].Blocks = 0 },
		func(c *api.Catalog) { c.Files[0].Blocks = api.MaxBlocks + 1 },
		func(c *api.Catalog) {
			for name := 3; len(c.Files) <= api.MaxFiles; name++ {
				c.Files = append(c.Files, api.File{Name: name, File: 200})
			}
		},
	} {
		w := c
		w.Files = slices.Clone(c.Files)
		f(&w)
		all = append(all, w)
	}
	return all
}

// P7.7: a catalog that isn't right is refused, and nothing is flushed or changed,
// with or without power.
func TestCommitOfWrongCatalogs(t *testing.T) {
	for i := range 18 {
		d, s := formatted(t, 12, 200, 30)
		f := save(t, s, 3, text(3, 117))
		want := s.Catalog()
		wrongs := wrongCatalogs(want)
		was, wrote := allOf(d), d.Wrote()
		d.Arm(0)
		for _, off := range []bool{false, true} {
			if off {
				d.Flush()
			}
			if status := s.Commit(wrongs[i]); status != api.BadParams || d.Off() != off {
				t.Fatalf("%v: %v, off: %v", wrongs[i], status, d.Off())
			}
			if !same(s.Catalog(), want) {
				t.Fatalf("behind a refused %v the catalog is %v", wrongs[i], s.Catalog())
			}
			free(t, s, 5)
		}
		d.Boot(1, 1)
		untouched(t, d, was, 0, wrote)
		is(t, s, f, text(3, 117))
		if g := closed(t, s.Create(1)); g.File != 130 {
			t.Fatalf("behind a refused %v the next file is %v", wrongs[i], g)
		}
		commit(t, s, with(s, f))
		has(t, opened(t, d), text(1, 200), text(2, 30), text(3, 117))
	}
}

// P7.7: a flush, a write, a flush: by where the power goes.
func TestCommitGoesInItsOrder(t *testing.T) {
	for fuse := range 4 {
		d, s := formatted(t, 12, 200)
		f := save(t, s, 1, text(2, 300))
		old := s.Catalog()
		wrote := d.Wrote()
		d.Arm(fuse)
		status := s.Commit(with(s, f))
		if fuse == 3 {
			if status != api.OK || d.Off() || d.Waits() != 0 || d.Wrote() != wrote+1 {
				t.Fatalf("all of it goes: %v", status)
			}
			has(t, s, text(2, 300))
			break
		}
		if status != api.Down || !d.Off() || !same(s.Catalog(), old) {
			t.Fatalf("a fuse of %d: %v, %v", fuse, status, s.Catalog())
		}
		if want := [][2]int{{3, 0}, {0, 0}, {1, 1}}[fuse]; d.Waits() != want[0] || d.Wrote()-wrote != want[1] {
			t.Fatalf("a fuse of %d: %d wait, %d went", fuse, d.Waits(), d.Wrote()-wrote)
		}
		free(t, s, 5)
		landed := d.Twin()
		landed.Boot(1)
		if fuse == 2 {
			has(t, opened(t, landed), text(2, 300))
			if c := slotOf(t, landed, 1); c.Gen != 2 || slotOf(t, landed, 0).Gen != 1 {
				t.Fatal("what waits isn't the other slot's")
			}
		}
		d.Boot()
		has(t, opened(t, d), text(1, 200))
	}
}

// P7.7: the scan frees what the catalog doesn't name: elder files, such as were never
// ended, and such as were never named.
func TestCommitScans(t *testing.T) {
	d, s := formatted(t, 30, 200, 300)
	keep := save(t, s, 3, text(3, 400))
	save(t, s, 4, text(4, 250))
	s.Create(5).Put(text(5, 500))
	again := save(t, s, 1, text(6, 117))
	free(t, s, 28-2-3-4-3-5-2)
	commit(t, s, with(s, keep, again))
	has(t, s, text(6, 117), text(2, 300), text(3, 400))
	free(t, s, 28-3-4-2)
	stands(t, d, save(t, s, 9, text(9, 580)), text(9, 580), 2, 3, 11, 12, 13)
	commit(t, s, s.Catalog())
	free(t, s, 28-3-4-2)
	has(t, opened(t, d), text(6, 117), text(2, 300), text(3, 400))
}

// P7.7: a file that isn't whole, or a block in two, is told behind the commit.
func TestCommitOfFilesThatAreNotWhole(t *testing.T) {
	for i, wrong := range []func(d *disk.Disk, c *api.Catalog){
		func(d *disk.Disk, c *api.Catalog) { c.Files[0].Blocks-- },
		func(d *disk.Disk, c *api.Catalog) { c.Files[0].Blocks++ },
		func(d *disk.Disk, c *api.Catalog) { c.Files[1].First++ },
		func(d *disk.Disk, c *api.Catalog) { c.Files[1].First = 1 },
		func(d *disk.Disk, c *api.Catalog) { c.Files[1].First = 65535 },
		func(d *disk.Disk, c *api.Catalog) { c.Files[0].File++ },
		func(d *disk.Disk, c *api.Catalog) { c.Files[1] = c.Files[0]; c.Files[1].Name = 2 },
		func(d *disk.Disk, c *api.Catalog) { d.Burst(3, 7, 1) },
		func(d *disk.Disk, c *api.Catalog) { tear(t, d, 2) },
		func(d *disk.Disk, c *api.Catalog) { turn(t, d, 5, func(l *api.Leaf) { l.Next = 9 }) },
		func(d *disk.Disk, c *api.Catalog) {
			c.Files = append(c.Files, api.File{Name: 3, File: 129, First: 6, Blocks: 1})
		},
	} {
		d, s := formatted(t, 12, 200, 300)
		c := s.Catalog()
		wrong(d, &c)
		if status := s.Commit(c); status != api.Corrupt {
			t.Errorf("wrong by %d: %v", i, status)
		}
		if slotOf(t, d, 1).Gen != 2 || d.Waits() != 0 {
			t.Errorf("wrong by %d: it isn't committed", i)
		}
		refuses(t, d, api.Corrupt)
	}
}

// P7.7: a catalog that is handed in is neither changed nor kept.
func TestCommitKeepsNoFiles(t *testing.T) {
	_, s := formatted(t, 12, 200, 300)
	room := append(s.Catalog().Files, api.File{Name: 9}, api.File{Name: 10})
	was := slices.Clone(room)
	c := api.Catalog{Gen: 50, Step: 2, Files: room[:2]}
	if status := s.Commit(c); status != api.OK {
		t.Fatal(status)
	}
	if !slices.Equal(room, was) || c.Gen != 50 {
		t.Error("what was handed in is changed")
	}
	clear(room)
	has(t, s, text(1, 200), text(2, 300))
	commit(t, s, s.Catalog())
	has(t, opened(t, s.Disk()), text(1, 200), text(2, 300))
}

// P7.7: the most files that a catalog has.
func TestCommitOfTheMostFiles(t *testing.T) {
	d, s := formatted(t, 40)
	var files []api.File
	var want [][]byte
	for name := 1; name <= api.MaxFiles; name++ {
		want = append(want, text(name, 25*name))
		files = append(files, save(t, s, name, want[name-1]))
	}
	commit(t, s, with(s, files...))
	has(t, s, want...)
	has(t, opened(t, d), want...)
	one := save(t, s, 15, nil)
	if status := s.Commit(with(s, one)); status != api.BadParams {
		t.Fatal(status)
	}
	has(t, s, want...)
	has(t, opened(t, d), want...)
}

// P7.7: without power at each call.
func TestCommitWithoutPower(t *testing.T) {
	d, s := formatted(t, 9, 200)
	darken(t, d)
	c := s.Catalog()
	for range 3 {
		if status := s.Commit(c); status != api.Down || !same(s.Catalog(), c) {
			t.Fatal(status)
		}
	}
	if s, status := store.Format(d, card, nil); s != nil || status != api.Down {
		t.Fatal(status)
	}
	if s.Disk() != d {
		t.Fatal("another disk")
	}
	free(t, s, 5)
	d.Boot()
	has(t, opened(t, d), text(1, 200))
	commit(t, s, c)
	has(t, s, text(1, 200))
}

// P7.7: a full disk can be committed.
func TestCommitOfAFullDisk(t *testing.T) {
	d, s := formatted(t, 6, 116)
	commit(t, s, with(s, save(t, s, 2, text(2, 348))))
	free(t, s, 0)
	for range 4 {
		commit(t, s, s.Catalog())
	}
	has(t, opened(t, d), text(1, 116), text(2, 348))
	if b := block(t, d, 2); !bytes.Equal(b[:116], text(1, 116)) {
		t.Error("a file is overwritten")
	}
}

package store_test

import (
	"bytes"
	"slices"
	"testing"

	"sheaf/api"
	"sheaf/catalog"
	"sheaf/disk"
	"sheaf/leaf"
	"sheaf/store"
)

// card is one that is right.
var card = api.Card{From: 3, To: 40, Budget: 2, Fan: 3}

// text is n bytes of no pattern, others for each seed.
func text(seed, n int) []byte {
	x := uint64(seed)*2862933555777941757 + 3037000493
	b := make([]byte, n)
	for i := range b {
		x = x*6364136223846793005 + 1442695040888963407
		b[i] = byte(x >> 56)
	}
	return b
}

// blocksFor is how many blocks n bytes take.
func blocksFor(n int) int { return (n + api.Load - 1) / api.Load }

// formatted is a store of n blocks, with a file of each size, by names from 1 on;
// the bytes of each are text of its name.
func formatted(t *testing.T, n int, sizes ...int) (*disk.Disk, *store.Store) {
	t.Helper()
	d := disk.New(n)
	files := map[int][]byte{}
	for i, size := range sizes {
		files[i+1] = text(i+1, size)
	}
	s, status := store.Format(d, card, files)
	if status != api.OK || s == nil {
		t.Fatalf("Format answers %v", status)
	}
	return d, s
}

// opened is the store that d has.
func opened(t *testing.T, d *disk.Disk) *store.Store {
	t.Helper()
	s, status := store.Open(d)
	if status != api.OK || s == nil {
		t.Fatalf("Open answers %v", status)
	}
	return s
}

// refuses holds Open's answer against a status that isn't OK.
func refuses(t *testing.T, d *disk.Disk, want api.Status) {
	t.Helper()
	waits, wrote := d.Waits(), d.Wrote()
	if s, status := store.Open(d); status != want || s != nil {
		t.Fatalf("Open answers %v, a store: %v, not %v", status, s != nil, want)
	}
	if d.Waits() != waits || d.Wrote() != wrote {
		t.Fatal("Open writes")
	}
}

// save makes a file of b.
func save(t *testing.T, s *store.Store, name int, b []byte) api.File {
	t.Helper()
	w := s.Create(name)
	if status := w.Put(b); status != api.OK {
		t.Fatalf("Put of %d bytes answers %v", len(b), status)
	}
	f, status := w.Close()
	if status != api.OK {
		t.Fatalf("Close answers %v", status)
	}
	return f
}

// told is what an iterator of f's blocks yields: the bytes of those that are OK, and
// the status of the last one, or OK. Behind one that isn't OK nothing may come.
func told(t *testing.T, s *store.Store, f api.File) ([][]byte, api.Status) {
	t.Helper()
	var parts [][]byte
	last := api.OK
	for b, status := range s.Blocks(f) {
		if last != api.OK {
			t.Fatalf("%v is yielded behind %v", status, last)
		}
		if last = status; status == api.OK {
			parts = append(parts, b)
		} else if len(b) != 0 {
			t.Fatalf("%d bytes beside %v", len(b), status)
		}
	}
	return parts, last
}

// yields holds how many blocks of f are OK, and what comes behind them, against what
// is wanted.
func yields(t *testing.T, s *store.Store, f api.File, parts int, want api.Status) {
	t.Helper()
	if got, status := told(t, s, f); len(got) != parts || status != want {
		t.Fatalf("of %v come %d blocks and %v, not %d and %v", f, len(got), status, parts, want)
	}
}

// is holds f's bytes, block by block, against b.
func is(t *testing.T, s *store.Store, f api.File, b []byte) {
	t.Helper()
	parts, status := told(t, s, f)
	if status != api.OK || len(parts) != blocksFor(len(b)) || f.Blocks != len(parts) {
		t.Fatalf("of %v come %d blocks and %v", f, len(parts), status)
	}
	for i, p := range parts {
		if !bytes.Equal(p, b[api.Load*i:min(api.Load*i+api.Load, len(b))]) {
			t.Fatalf("of %v block %d is %v", f, i, p)
		}
	}
}

// has holds the store's files, by names from 1 on, against their bytes, and what is
// free against the rest of the disk.
func has(t *testing.T, s *store.Store, want ...[]byte) {
	t.Helper()
	files := s.Catalog().Files
	if len(files) != len(want) {
		t.Fatalf("the files are %v", files)
	}
	taken := 0
	for i, b := range want {
		if files[i].Name != i+1 {
			t.Fatalf("the files are %v", files)
		}
		is(t, s, files[i], b)
		taken += files[i].Blocks
	}
	free(t, s, max(s.Disk().Len()-api.Slots, 0)-taken)
}

// free holds how many blocks are free against what is wanted.
func free(t *testing.T, s *store.Store, want int) {
	t.Helper()
	if s.Free() != want {
		t.Fatalf("%d blocks are free, not %d", s.Free(), want)
	}
}

// same reports whether a and b are one catalog; nil and empty files are.
func same(a, b api.Catalog) bool {
	files := slices.Equal(a.Files, b.Files)
	return files && a.Gen == b.Gen && a.Step == b.Step && a.Status == b.Status && a.Ended == b.Ended && a.Card == b.Card
}

// commit makes c the catalog, and holds the store's against it.
func commit(t *testing.T, s *store.Store, c api.Catalog) {
	t.Helper()
	c.Gen = s.Catalog().Gen + 1
	if status := s.Commit(c); status != api.OK {
		t.Fatalf("Commit of %v answers %v", c, status)
	}
	if !same(s.Catalog(), c) {
		t.Fatalf("behind a Commit of %v the catalog is %v", c, s.Catalog())
	}
}

// with is the store's catalog with these files.
func with(s *store.Store, files ...api.File) api.Catalog {
	return catalog.With(s.Catalog(), files)
}

// block is what block i of d reads as.
func block(t *testing.T, d *disk.Disk, i int) []byte {
	t.Helper()
	b, ok := d.Read(i)
	if !ok {
		t.Fatalf("block %d can't be read", i)
	}
	return b
}

// leafOf is the leaf that block i of d has.
func leafOf(t *testing.T, d *disk.Disk, i int) api.Leaf {
	t.Helper()
	l, ok := leaf.Get(block(t, d, i))
	if !ok {
		t.Fatalf("block %d has no leaf", i)
	}
	return l
}

// slotOf is the catalog that slot i of d has.
func slotOf(t *testing.T, d *disk.Disk, i int) api.Catalog {
	t.Helper()
	c, ok := catalog.Get(leafOf(t, d, i))
	if !ok {
		t.Fatalf("slot %d has no catalog", i)
	}
	return c
}

// data is a leaf of a file.
func data(file, place, next int, b []byte) api.Leaf {
	l := api.Leaf{Kind: api.KData, File: file, Place: place, Next: next, Size: len(b)}
	copy(l.Load[:], b)
	return l
}

// lay puts l into block i of d.
func lay(t *testing.T, d *disk.Disk, i int, l api.Leaf) {
	t.Helper()
	b := leaf.Put(l)
	if len(b) == 0 || d.Write(i, b) != api.OK || d.Flush() != api.OK {
		t.Fatalf("%v doesn't go into block %d", l, i)
	}
}

// turn has l changed by f, and put into block i of d in its place.
func turn(t *testing.T, d *disk.Disk, i int, f func(*api.Leaf)) {
	t.Helper()
	l := leafOf(t, d, i)
	f(&l)
	lay(t, d, i, l)
}

// tear makes block i of d one that can't be read.
func tear(t *testing.T, d *disk.Disk, i int) {
	t.Helper()
	if d.Waits() != 0 || d.Write(i, make([]byte, api.Block)) != api.OK {
		t.Fatalf("block %d can't be torn", i)
	}
	d.Boot(2)
}

// darken takes d's power.
func darken(t *testing.T, d *disk.Disk) {
	t.Helper()
	d.Arm(0)
	if d.Flush() != api.Down || !d.Off() {
		t.Fatal("the power stays on")
	}
}

// chainOf is the blocks of f, as their leaves name each other.
func chainOf(t *testing.T, d *disk.Disk, f api.File) []int {
	t.Helper()
	var blocks []int
	for at := f.First; at != 0 && len(blocks) <= d.Len(); at = leafOf(t, d, at).Next {
		blocks = append(blocks, at)
	}
	return blocks
}

// stands holds f's blocks, where they are and what they have, against b.
func stands(t *testing.T, d *disk.Disk, f api.File, b []byte, blocks ...int) {
	t.Helper()
	first := 0
	for i, at := range blocks {
		next := 0
		if i+1 < len(blocks) {
			next = blocks[i+1]
		}
		if i == 0 {
			first = at
		}
		want := data(f.File, i, next, b[api.Load*i:min(api.Load*i+api.Load, len(b))])
		if got := leafOf(t, d, at); got != want {
			t.Fatalf("block %d has %v, not %v", at, got, want)
		}
	}
	if f.First != first || f.Blocks != len(blocks) || blocksFor(len(b)) != len(blocks) {
		t.Fatalf("the file is %v, its blocks must be %v", f, blocks)
	}
}

// upTo is the numbers from a on, below b.
func upTo(a, b int) []int {
	var l []int
	for i := a; i < b; i++ {
		l = append(l, i)
	}
	return l
}

// allOf is what all blocks of d read as, and which can't be read.
func allOf(d *disk.Disk) [][]byte {
	var all [][]byte
	for i := range d.Len() {
		b, _ := d.Read(i)
		all = append(all, b)
	}
	return all
}

// untouched holds a disk against what allOf told of it, and its counts.
func untouched(t *testing.T, d *disk.Disk, was [][]byte, waits, wrote int) {
	t.Helper()
	if !slices.EqualFunc(allOf(d), was, bytes.Equal) || d.Waits() != waits || d.Wrote() != wrote {
		t.Fatal("the disk was changed")
	}
}
